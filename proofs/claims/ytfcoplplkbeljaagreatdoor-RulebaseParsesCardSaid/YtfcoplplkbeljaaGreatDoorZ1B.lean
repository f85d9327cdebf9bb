/- The small answers about rule bases: ranks, sources, names of rules, literals that are not valid. Rule bases in memory; Find and Premise. Find and Premise, the program's and the reference's, for every rule base. Rows that a call owns: append of one element, whatever it holds; premises, rules, promotions. -/
import Derived.Test.YtfcoplplkbeljaaGreatDoorText
import Derived.Test.YtfcoplplkbeljaaGreatDoorParse
import Derived.Test.YtfcoplplkbeljaaGreatDoorKeep
import Derived.Laws.IdiomStrings
import Derived.OwnWalk

namespace Go.Proofs.YtfcoplplkbeljaaGreatDoor
set_option linter.unusedVariables false
set_option linter.unusedSimpArgs false
open Go Go.RowKit

/-- Does the rank fit? -/
def rankB (n : Int) (ranked : Bool) : Bool := if ranked then decide (0 ≤ n) && decide (n ≤ 9) else decide (n = 0)

theorem rankFits_any (n : Int) (g : Bool) (hn : I64 n) (w : World) :
    Calls Tryz.prog 142 #[.int .i64 n, .bool g] w fun e w' => e = .returned (.bool (rankB n g)) ∧ w = w' := by
  unfold I64 at hn
  cases g
  · go_enter Tryz.func142, Tryz.ntmps142
    go_wp2
    all_goals (go_ret; refine ⟨ret_bool ?_, rfl⟩; grind [rankB])
  · go_enter Tryz.func142, Tryz.ntmps142
    go_wp2
    all_goals (go_ret; refine ⟨ret_bool ?_, rfl⟩; grind [rankB])

/-- Does the source fit? -/
def srcB (s : ByteArray) : Bool := decide (s.size = 0) || vn s

theorem sourceFits_any (s : ByteArray) (hs : s.size ≤ maxLen) (w : World) :
    Calls Tryz.prog 143 #[.string s] w fun e w' => e = .returned (.bool (srcB s)) ∧ w = w' := by
  have HS := hidIt hs
  clear hs
  by_cases h0 : s.size = 0
  · have e0 : s = ⟨#[]⟩ := by apply ByteArray.ext; exact Array.eq_empty_of_size_eq_zero h0
    subst e0
    go_enter Tryz.func143, Tryz.ntmps143
    go_wp2
    all_goals (go_ret; refine ⟨ret_bool ?_, rfl⟩; rfl)
  · have hne : s.toList.isEmpty = false := by
      rw [Lib.toList_data]
      cases h : s.data.toList with
      | nil => exact absurd (by show s.data.size = 0; rw [← Array.length_toList, h]; rfl) h0
      | cons a l => rfl
    have hne2 : ¬ s.toList = [] := by
      intro h
      rw [h] at hne
      cases hne
    have HB : Hid (srcB s = vn s) := by show _ = _; unfold srcB; rw [decide_eq_false h0]; rfl
    go_enter Tryz.func143, Tryz.ntmps143
    go_wp2_with (go_at_call 145; refine (validName_any s _ HS.out).mono ?_; rintro e w' ⟨rfl, rfl⟩)
    all_goals (go_ret; exact ⟨ret_bool HB.out.symm, rfl⟩)

theorem notValid_any (g : Bool) (s : ByteArray) (hs : s.size ≤ maxLen) (w : World) :
    Calls Tryz.prog 147 #[.agg #[.bool g, .string s]] w fun e w' => e = .returned (.bool (!vn s)) ∧ Below w.heap.size w w' := by
  have hgr : Below w.heap.size w (w.alloc (.cells #[.bool g, .string s] 46)) := (Below.refl _ _).alloc (Nat.le_refl _) _
  have HG := hidIt hgr
  clear hgr
  go_enter Tryz.func147, Tryz.ntmps147
  go_wp2_with fail
  refine (valid_any g s _ hs).mono ?_
  rintro e w1 ⟨rfl, hb⟩
  have HB := hidIt (HG.out.trans (hb.mono HG.out.size))
  clear hb
  cases h : vn s
  · go_wp2_with fail
    go_ret
    refine ⟨?_, HB.out⟩
    rw [h]; rfl
  · go_wp2_with fail
    go_ret
    refine ⟨?_, HB.out⟩
    rw [h]; rfl

/-- The name of the rule with a number: r and a letter. -/
def ruleNm (m : Nat) : ByteArray := ⟨#[114]⟩ ++ ⟨#[97 + UInt8.ofNat m]⟩

theorem conv_byte (m : Nat) (h : m < 26) (w : World) (z : Int) (hz : z = 97 + (m : Int)) :
    (convert 34 9 (.slice (some ⟨w.heap.size, 0, none⟩) 1 1)).run Tryz.prog (w.alloc (.cells #[.int .u8 z] 5)) = .ok (.string ⟨#[UInt8.ofNat (97 + m)]⟩) (w.alloc (.cells #[.int .u8 z] 5)) := by
  subst hz
  refine run_convert_bytes_back (P := Tryz.prog) _ 34 9 5 ⟨w.heap.size, 0, none⟩ 1 [UInt8.ofNat (97 + m)] Tryz.underlying34 Tryz.underlying5 Tryz.underlying9 ?_
  intro j hj
  obtain rfl : j = 0 := by simpa using hj
  have h1 : (UInt8.ofNat (97 + m)).toNat = 97 + m := by rw [UInt8.toNat_ofNat']; omega
  have e : (([UInt8.ofNat (97 + m)] : List UInt8)[0].toNat : Int) = 97 + (m : Int) := by show ((UInt8.ofNat (97 + m)).toNat : Int) = _; rw [h1]; omega
  rw [e]
  have hK := heap_alloc_new w (.cells #[.int .u8 (97 + (m : Int))] 5)
  generalize (w.alloc (.cells #[.int .u8 (97 + (m : Int))] 5)) = w' at *
  show w'.cell? ((⟨w.heap.size, 0, none⟩ : Addr).add 0) = _
  rw [Addr.add_lit]
  simp [World.cell?, hK]

set_option maxRecDepth 100000 in
theorem ruleName_any (n : Int) (hn : I64 n) (w : World) :
    Calls Tryz.prog 49 #[.int .i64 n] w fun e w' => ∃ m : Nat, e = .returned (.string (ruleNm m)) ∧ (m : Int) = modI n 26 ∧ Below w.heap.size w w' := by
  have hn' := hn
  unfold I64 at hn'
  go_enter Tryz.func49, Tryz.ntmps49
  go_wp2_with fail
  refine (mod_any n 26 (by omega) (by omega) (by omega) (by omega) w).mono ?_
  rintro e w1 ⟨rfl, rfl⟩
  have hmd := modI_bd n 26 (by omega)
  obtain ⟨m, hm⟩ : ∃ m : Nat, modI n 26 = (m : Int) := ⟨(modI n 26).toNat, by omega⟩
  rw [hm] at hmd ⊢
  have hm26 : m < 26 := by omega
  have hm0 : (0 : Int) ≤ (m : Int) := by omega
  have hmI : (m : Int) < 26 := by omega
  have hcv := conv_byte m hm26 w (97 + (m : Int)) rfl
  go_wp2_with fail
  go_ret
  exact ⟨m, rfl, hm.symm, (Below.refl _ _).alloc (Nat.le_refl _) _⟩

theorem find1_any (w : World) (nm rn hd : ByteArray) (st ng : Bool) (rk : Int) (bv : Value) (b : Nat) (hb : w.cell? ⟨b, 0, none⟩ = some (.string nm)) (hl : b < w.heap.size) :
    Calls Tryz.prog 109 #[.agg #[.string rn, .bool st, .int .i64 rk, bv, .bool ng, .string hd], .pointer (some ⟨b, 0, none⟩)] w fun e w' => e = .returned (.bool (rn.toList == nm.toList)) ∧ Below w.heap.size w w' := by
  have hgr : Below w.heap.size w (w.alloc (.cells #[.string rn, .bool st, .int .i64 rk, bv, .bool ng, .string hd] 64)) := (Below.refl _ _).alloc (Nat.le_refl _) _
  have HG := hidIt hgr
  have hb2 := (hgr.cell (p := ⟨b, 0, none⟩) hl).trans hb
  clear hgr
  go_enter Tryz.func109, Tryz.ntmps109
  go_wp2_with fail
  go_ret
  exact ⟨rfl, HG.out⟩

theorem prem1_any (w : World) (ng pg : Bool) (nm pn sr : ByteArray) (kd rk : Int) (b : Nat) (hb : w.cell? ⟨b, 0, none⟩ = some (.bool ng)) (hb1 : w.cell? ⟨b, 1, none⟩ = some (.string nm)) (hl : b < w.heap.size) :
    Calls Tryz.prog 178 #[.agg #[.bool pg, .string pn, .int .i64 kd, .int .i64 rk, .string sr], .pointer (some ⟨b, 0, none⟩)] w fun e w' => e = .returned (.bool ((pg == ng) && (pn.toList == nm.toList))) ∧ Below w.heap.size w w' := by
  have hgr : Below w.heap.size w (w.alloc (.cells #[.bool pg, .string pn, .int .i64 kd, .int .i64 rk, .string sr] 74)) := (Below.refl _ _).alloc (Nat.le_refl _) _
  have HG := hidIt hgr
  have hb2 := (hgr.cell (p := ⟨b, 0, none⟩) hl).trans hb
  have hb3 := (hgr.cell (p := ⟨b, 1, none⟩) hl).trans hb1
  clear hgr
  go_enter Tryz.func178, Tryz.ntmps178
  go_wp2_with fail
  all_goals (go_ret; refine ⟨ret_bool ?_, (Below.refl _ _).alloc (Nat.le_refl _) _⟩; simp_all)

end Go.Proofs.YtfcoplplkbeljaaGreatDoor

namespace Go.Proofs.YtfcoplplkbeljaaGreatDoor
set_option linter.unusedVariables false
set_option linter.unusedSimpArgs false
open Go Go.RowKit

/-- A premise, a rule, a promotion. -/
structure Pm where
  lit : Lt
  kind : Int
  rank : Int
  src : ByteArray
deriving DecidableEq
structure Ru where
  name : ByteArray
  strict : Bool
  rank : Int
  body : List Lt
  head : Lt
deriving DecidableEq
structure Pr where
  rule : ByteArray
  rank : Int
  lit : Lt
deriving DecidableEq

/-- An empty row, whatever its address. -/
def NoRow (v : Value) : Prop := ∃ (a : Option Addr) (c : Nat), v = .slice a 0 c ∧ c ≤ maxLen
theorem noRow_nil : NoRow (.slice none 0 0) := ⟨none, 0, rfl, by unfold maxLen; omega⟩
/-- A list of literals in memory (LitsAt says the same, but for the address of an empty one). -/
def BodyAt (w : World) (v : Value) (xs : List Lt) : Prop :=
  (NoRow v ∧ xs = []) ∨
  ∃ (b off cap : Nat), v = .slice (some ⟨b, off, none⟩) xs.length cap ∧ xs.length ≤ cap ∧ cap ≤ maxLen ∧ b < w.heap.size ∧
    ∀ i (h : i < xs.length), w.cell? ⟨b, off + i * 2, none⟩ = some (.bool (xs[i]).neg) ∧ w.cell? ⟨b, off + i * 2 + 1, none⟩ = some (.string (xs[i]).name)

/-- One premise's five cells, one rule's six, one promotion's four. -/
def PmAt (w : World) (b o : Nat) (p : Pm) : Prop :=
  w.cell? ⟨b, o, none⟩ = some (.bool p.lit.neg) ∧ w.cell? ⟨b, o + 1, none⟩ = some (.string p.lit.name) ∧ w.cell? ⟨b, o + 2, none⟩ = some (.int .i64 p.kind) ∧ w.cell? ⟨b, o + 3, none⟩ = some (.int .i64 p.rank) ∧ w.cell? ⟨b, o + 4, none⟩ = some (.string p.src)
def RuAt (w : World) (b o : Nat) (r : Ru) : Prop :=
  ∃ bv : Value, w.cell? ⟨b, o, none⟩ = some (.string r.name) ∧ w.cell? ⟨b, o + 1, none⟩ = some (.bool r.strict) ∧ w.cell? ⟨b, o + 2, none⟩ = some (.int .i64 r.rank) ∧ w.cell? ⟨b, o + 3, none⟩ = some bv ∧
    w.cell? ⟨b, o + 4, none⟩ = some (.bool r.head.neg) ∧ w.cell? ⟨b, o + 5, none⟩ = some (.string r.head.name) ∧ BodyAt w bv r.body
def PrAt (w : World) (b o : Nat) (p : Pr) : Prop :=
  w.cell? ⟨b, o, none⟩ = some (.string p.rule) ∧ w.cell? ⟨b, o + 1, none⟩ = some (.int .i64 p.rank) ∧ w.cell? ⟨b, o + 2, none⟩ = some (.bool p.lit.neg) ∧ w.cell? ⟨b, o + 3, none⟩ = some (.string p.lit.name)

/-- A row of such things, k cells each. -/
def RowIn {α : Type} (k : Nat) (At : World → Nat → Nat → α → Prop) (w : World) (v : Value) (xs : List α) : Prop :=
  (NoRow v ∧ xs = []) ∨
  ∃ (b off cap : Nat), v = .slice (some ⟨b, off, none⟩) xs.length cap ∧ xs.length ≤ cap ∧ cap ≤ maxLen ∧ b < w.heap.size ∧ ∀ i (h : i < xs.length), At w b (off + i * k) xs[i]

def PmsAt : World → Value → List Pm → Prop := RowIn 5 PmAt
def RusAt : World → Value → List Ru → Prop := RowIn 6 RuAt
def PrsAt : World → Value → List Pr → Prop := RowIn 4 PrAt

theorem BodyAt.below {w w' : World} {v : Value} {xs : List Lt} (h : BodyAt w v xs) (hb : Below w.heap.size w w') : BodyAt w' v xs := by
  rcases h with h | ⟨b, off, cap, h1, h2, h3, h4, h5⟩
  · exact .inl h
  · exact .inr ⟨b, off, cap, h1, h2, h3, Nat.lt_of_lt_of_le h4 hb.size, fun i hi => ⟨(hb.cell (p := ⟨b, off + i * 2, none⟩) h4).trans (h5 i hi).1, (hb.cell (p := ⟨b, off + i * 2 + 1, none⟩) h4).trans (h5 i hi).2⟩⟩
theorem PmAt.below {w w' : World} {b o : Nat} {p : Pm} (h : PmAt w b o p) (hb : Below w.heap.size w w') (hl : b < w.heap.size) : PmAt w' b o p :=
  ⟨(hb.cell (p := ⟨b, _, none⟩) hl).trans h.1, (hb.cell (p := ⟨b, _, none⟩) hl).trans h.2.1, (hb.cell (p := ⟨b, _, none⟩) hl).trans h.2.2.1, (hb.cell (p := ⟨b, _, none⟩) hl).trans h.2.2.2.1, (hb.cell (p := ⟨b, _, none⟩) hl).trans h.2.2.2.2⟩
theorem PrAt.below {w w' : World} {b o : Nat} {p : Pr} (h : PrAt w b o p) (hb : Below w.heap.size w w') (hl : b < w.heap.size) : PrAt w' b o p :=
  ⟨(hb.cell (p := ⟨b, _, none⟩) hl).trans h.1, (hb.cell (p := ⟨b, _, none⟩) hl).trans h.2.1, (hb.cell (p := ⟨b, _, none⟩) hl).trans h.2.2.1, (hb.cell (p := ⟨b, _, none⟩) hl).trans h.2.2.2⟩
theorem RuAt.below {w w' : World} {b o : Nat} {r : Ru} (h : RuAt w b o r) (hb : Below w.heap.size w w') (hl : b < w.heap.size) : RuAt w' b o r := by
  obtain ⟨bv, h0, h1, h2, h3, h4, h5, h6⟩ := h
  exact ⟨bv, (hb.cell (p := ⟨b, _, none⟩) hl).trans h0, (hb.cell (p := ⟨b, _, none⟩) hl).trans h1, (hb.cell (p := ⟨b, _, none⟩) hl).trans h2, (hb.cell (p := ⟨b, _, none⟩) hl).trans h3, (hb.cell (p := ⟨b, _, none⟩) hl).trans h4, (hb.cell (p := ⟨b, _, none⟩) hl).trans h5, h6.below hb⟩
theorem RowIn.below {α : Type} {k : Nat} {At : World → Nat → Nat → α → Prop} (hA : ∀ w w' b o x, At w b o x → Below w.heap.size w w' → b < w.heap.size → At w' b o x) {w w' : World} {v : Value} {xs : List α} (h : RowIn k At w v xs) (hb : Below w.heap.size w w') : RowIn k At w' v xs := by
  rcases h with h | ⟨b, off, cap, h1, h2, h3, h4, h5⟩
  · exact .inl h
  · exact .inr ⟨b, off, cap, h1, h2, h3, Nat.lt_of_lt_of_le h4 hb.size, fun i hi => hA _ _ _ _ _ (h5 i hi) hb h4⟩
theorem RusAt.below {w w' : World} {v : Value} {xs : List Ru} (h : RusAt w v xs) (hb : Below w.heap.size w w') : RusAt w' v xs := RowIn.below (fun _ _ _ _ _ h hb hl => h.below hb hl) h hb
theorem PmsAt.below {w w' : World} {v : Value} {xs : List Pm} (h : PmsAt w v xs) (hb : Below w.heap.size w w') : PmsAt w' v xs := RowIn.below (fun _ _ _ _ _ h hb hl => h.below hb hl) h hb
theorem PrsAt.below {w w' : World} {v : Value} {xs : List Pr} (h : PrsAt w v xs) (hb : Below w.heap.size w w') : PrsAt w' v xs := RowIn.below (fun _ _ _ _ _ h hb hl => h.below hb hl) h hb

/-- The row's header as a walk wants it: one address, whether or not there is one. -/
theorem RowIn.form {α : Type} {k : Nat} {At : World → Nat → Nat → α → Prop} {w : World} {v : Value} {xs : List α} (h : RowIn k At w v xs) :
    ∃ (a : Option Addr) (cap : Nat), v = .slice a xs.length cap ∧ xs.length ≤ cap ∧ cap ≤ maxLen ∧ ∀ i (h : i < xs.length), ∃ b off : Nat, a = some ⟨b, off, none⟩ ∧ b < w.heap.size ∧ At w b (off + i * k) xs[i] := by
  rcases h with ⟨⟨a, c, h1, hc⟩, h2⟩ | ⟨b, off, cap, h1, h2, h3, h4, h5⟩
  · subst h2
    exact ⟨a, c, h1, by simp, hc, fun i hi => absurd hi (by simp)⟩
  · exact ⟨_, cap, h1, h2, h3, fun i hi => ⟨b, off, rfl, h4, h5 i hi⟩⟩

/-- The first place at which p holds, or -1. -/
def posI {α : Type} (p : α → Bool) (xs : List α) : Int := if xs.findIdx p < xs.length then (xs.findIdx p : Int) else -1
theorem posI_at {α : Type} {p : α → Bool} {xs : List α} {k : Nat} (hk : k < xs.length) (hp : p xs[k] = true) (hn : ∀ j (hj : j < k), p (xs[j]'(by omega)) = false) : posI p xs = (k : Int) := by
  have e : xs.findIdx p = k := by
    rw [List.findIdx_eq hk]
    exact ⟨hp, fun j hj => by rw [hn j hj]⟩
  unfold posI
  rw [e, if_pos hk]
theorem posI_no {α : Type} {p : α → Bool} {xs : List α} (hn : ∀ j (hj : j < xs.length), p xs[j] = false) : posI p xs = -1 := by
  have e : xs.findIdx p = xs.length := by
    rw [List.findIdx_eq_length]
    intro x hx
    obtain ⟨j, hj, rfl⟩ := List.getElem_of_mem hx
    rw [hn j hj]
  unfold posI
  rw [e, if_neg (Nat.lt_irrefl _)]

/-- Has the rule this name? -/
def hasName (nm : ByteArray) (r : Ru) : Bool := r.name.toList == nm.toList

set_option maxHeartbeats 1000000 in
theorem idxRule_any (rs : List Ru) (v : Value) (nm : ByteArray) (m : Nat) (w : World) (hv : RusAt w v rs) (hc : w.cell? ⟨m, 0, none⟩ = some (.string nm)) (hm : m < w.heap.size) :
    Calls Tryz.prog 108 #[v, .func (Fn.func 109) #[] #[.pointer (some ⟨m, 0, none⟩)]] w fun e w' => e = .returned (.int .i64 (posI (hasName nm) rs)) ∧ Below w.heap.size w w' := by
  obtain ⟨a, cap, rfl, hlen, hcap, hrow⟩ := hv.form
  have HR := hidIt hrow
  have HC := hidIt hc
  have HM := hidIt hm
  have hl1 : rs.length ≤ 9223372036854775807 := by unfold maxLen at hcap; omega
  clear hrow hv hc hm
  go_enter Tryz.func108, Tryz.ntmps108
  go_wp2_with fail
  go_loopw [5, 8] (fun _ i wr => ∃ k : Nat, k ≤ rs.length ∧ i = .int .i64 k ∧ Hid (Below w.heap.size w wr) ∧ Hid (∀ j (hj : j < rs.length), j < k → hasName nm rs[j] = false)) (fun _ i _ => rs.length - (intOf i).toNat)
  case atStart => exact ⟨0, Nat.zero_le _, rfl, Below.refl _ _, fun j hj h => absurd h (by omega)⟩
  case round =>
    obtain ⟨k, hk, rfl, HB, HF⟩ := hrel
    by_cases hlt : k < rs.length
    · have hkr := hlt
      obtain ⟨b, off, rfl, hbl, bv, c0, c1, c2, c3, c4, c5, -⟩ := HR.out k hkr
      have hltI : (k : Int) < (rs.length : Int) := by omega
      have hk0 : (0 : Int) ≤ (k : Int) := by omega
      have d0 := (HB.out.cell (p := ⟨b, off + k * 6, none⟩) hbl).trans c0
      have d1 := (HB.out.cell (p := ⟨b, off + k * 6 + 1, none⟩) hbl).trans c1
      have d2 := (HB.out.cell (p := ⟨b, off + k * 6 + 2, none⟩) hbl).trans c2
      have d3 := (HB.out.cell (p := ⟨b, off + k * 6 + 3, none⟩) hbl).trans c3
      have d4 := (HB.out.cell (p := ⟨b, off + k * 6 + 4, none⟩) hbl).trans c4
      have d5 := (HB.out.cell (p := ⟨b, off + k * 6 + 5, none⟩) hbl).trans c5
      have hbl2 := Nat.lt_of_lt_of_le hbl HB.out.size
      clear c0 c1 c2 c3 c4 c5
      go_wp2_with fail
      refine (find1_any wr nm rs[k].name rs[k].head.name rs[k].strict rs[k].head.neg rs[k].rank bv m ((HB.out.cell (p := ⟨m, 0, none⟩) HM.out).trans HC.out) (Nat.lt_of_lt_of_le HM.out HB.out.size)).mono ?_
      rintro e w1 ⟨rfl, hb1⟩
      have HB1 := hidIt (HB.out.trans (hb1.mono HB.out.size))
      clear hb1 d0 d1 d2 d3 d4 d5
      cases hp : (rs[k].name.toList == nm.toList)
      · go_wp2_with fail
        go_roundw
        case rel =>
          refine ⟨k + 1, by omega, by go_num, HB1, fun j hj hjk => ?_⟩
          by_cases hjj : j < k
          · exact HF.out j hj hjj
          · obtain rfl : j = k := by omega
            exact hp
        case measure => simp [intOf]; omega
      · go_wp2_with fail
        go_ret
        refine ⟨?_, HB1.out⟩
        rw [posI_at (p := hasName nm) hkr hp (fun j hj => HF.out j (by omega) hj)]
        rfl
    · obtain rfl : k = rs.length := by omega
      go_wp2_with fail
      go_ret
      refine ⟨?_, HB.out⟩
      rw [posI_no (p := hasName nm) (fun j hj => HF.out j hj hj)]
      rfl

/-- Is it this literal's premise? -/
def hasLit (x : Lt) (p : Pm) : Bool := (p.lit.neg == x.neg) && (p.lit.name.toList == x.name.toList)

set_option maxHeartbeats 1000000 in
theorem idxPrem_any (rs : List Pm) (v : Value) (x : Lt) (m : Nat) (w : World) (hv : PmsAt w v rs) (hc : w.cell? ⟨m, 0, none⟩ = some (.bool x.neg)) (hc1 : w.cell? ⟨m, 1, none⟩ = some (.string x.name)) (hm : m < w.heap.size) :
    Calls Tryz.prog 177 #[v, .func (Fn.func 178) #[] #[.pointer (some ⟨m, 0, none⟩)]] w fun e w' => e = .returned (.int .i64 (posI (hasLit x) rs)) ∧ Below w.heap.size w w' := by
  obtain ⟨a, cap, rfl, hlen, hcap, hrow⟩ := hv.form
  have HR := hidIt hrow
  have HC := hidIt hc
  have HC1 := hidIt hc1
  have HM := hidIt hm
  have hl1 : rs.length ≤ 9223372036854775807 := by unfold maxLen at hcap; omega
  clear hrow hv hc hc1 hm
  go_enter Tryz.func177, Tryz.ntmps177
  go_wp2_with fail
  go_loopw [5, 8] (fun _ i wr => ∃ k : Nat, k ≤ rs.length ∧ i = .int .i64 k ∧ Hid (Below w.heap.size w wr) ∧ Hid (∀ j (hj : j < rs.length), j < k → hasLit x rs[j] = false)) (fun _ i _ => rs.length - (intOf i).toNat)
  case atStart => exact ⟨0, Nat.zero_le _, rfl, Below.refl _ _, fun j hj h => absurd h (by omega)⟩
  case round =>
    obtain ⟨k, hk, rfl, HB, HF⟩ := hrel
    by_cases hlt : k < rs.length
    · have hkr := hlt
      obtain ⟨b, off, rfl, hbl, c0, c1, c2, c3, c4⟩ := HR.out k hkr
      have hltI : (k : Int) < (rs.length : Int) := by omega
      have hk0 : (0 : Int) ≤ (k : Int) := by omega
      have d0 := (HB.out.cell (p := ⟨b, off + k * 5, none⟩) hbl).trans c0
      have d1 := (HB.out.cell (p := ⟨b, off + k * 5 + 1, none⟩) hbl).trans c1
      have d2 := (HB.out.cell (p := ⟨b, off + k * 5 + 2, none⟩) hbl).trans c2
      have d3 := (HB.out.cell (p := ⟨b, off + k * 5 + 3, none⟩) hbl).trans c3
      have d4 := (HB.out.cell (p := ⟨b, off + k * 5 + 4, none⟩) hbl).trans c4
      have hbl2 := Nat.lt_of_lt_of_le hbl HB.out.size
      clear c0 c1 c2 c3 c4
      go_wp2_with fail
      refine (prem1_any wr x.neg rs[k].lit.neg x.name rs[k].lit.name rs[k].src rs[k].kind rs[k].rank m ((HB.out.cell (p := ⟨m, 0, none⟩) HM.out).trans HC.out) ((HB.out.cell (p := ⟨m, 1, none⟩) HM.out).trans HC1.out) (Nat.lt_of_lt_of_le HM.out HB.out.size)).mono ?_
      rintro e w1 ⟨rfl, hb1⟩
      have HB1 := hidIt (HB.out.trans (hb1.mono HB.out.size))
      clear hb1 d0 d1 d2 d3 d4
      cases hp : ((rs[k].lit.neg == x.neg) && (rs[k].lit.name.toList == x.name.toList))
      · go_wp2_with fail
        go_roundw
        case rel =>
          refine ⟨k + 1, by omega, by go_num, HB1, fun j hj hjk => ?_⟩
          by_cases hjj : j < k
          · exact HF.out j hj hjj
          · obtain rfl : j = k := by omega
            exact hp
        case measure => simp [intOf]; omega
      · go_wp2_with fail
        go_ret
        refine ⟨?_, HB1.out⟩
        rw [posI_at (p := hasLit x) hkr hp (fun j hj => HF.out j (by omega) hj)]
        rfl
    · obtain rfl : k = rs.length := by omega
      go_wp2_with fail
      go_ret
      refine ⟨?_, HB.out⟩
      rw [posI_no (p := hasLit x) (fun j hj => HF.out j hj hj)]
      rfl

end Go.Proofs.YtfcoplplkbeljaaGreatDoor

namespace Go.Proofs.YtfcoplplkbeljaaGreatDoor
set_option linter.unusedVariables false
set_option linter.unusedSimpArgs false
open Go Go.RowKit

/-- A rule base. -/
structure Bs where
  prems : List Pm
  rules : List Ru
  proms : List Pr
deriving DecidableEq

def BaseAt (w : World) (v : Value) (b : Bs) : Prop := ∃ pv rv qv : Value, v = .agg #[pv, rv, qv] ∧ PmsAt w pv b.prems ∧ RusAt w rv b.rules ∧ PrsAt w qv b.proms
theorem BaseAt.below {w w' : World} {v : Value} {b : Bs} (h : BaseAt w v b) (hb : Below w.heap.size w w') : BaseAt w' v b := by
  obtain ⟨pv, rv, qv, h1, h2, h3, h4⟩ := h
  exact ⟨pv, rv, qv, h1, h2.below hb, h3.below hb, h4.below hb⟩
theorem BaseAt.form {w : World} {v : Value} {b : Bs} (h : BaseAt w v b) : ∃ (a1 a2 a3 : Option Addr) (c1 c2 c3 : Nat), v = .agg #[.slice a1 b.prems.length c1, .slice a2 b.rules.length c2, .slice a3 b.proms.length c3] ∧
    b.prems.length ≤ c1 ∧ c1 ≤ maxLen ∧ b.rules.length ≤ c2 ∧ c2 ≤ maxLen ∧ b.proms.length ≤ c3 ∧ c3 ≤ maxLen ∧
    PmsAt w (.slice a1 b.prems.length c1) b.prems ∧ RusAt w (.slice a2 b.rules.length c2) b.rules ∧ PrsAt w (.slice a3 b.proms.length c3) b.proms := by
  obtain ⟨pv, rv, qv, h1, h2, h3, h4⟩ := h
  obtain ⟨a1, c1, rfl, l1, m1, -⟩ := RowIn.form h2
  obtain ⟨a2, c2, rfl, l2, m2, -⟩ := RowIn.form h3
  obtain ⟨a3, c3, rfl, l3, m3, -⟩ := RowIn.form h4
  exact ⟨a1, a2, a3, c1, c2, c3, h1, l1, m1, l2, m2, l3, m3, h2, h3, h4⟩

theorem bgrow (w : World) (o : Obj) : Below w.heap.size w (w.alloc o) := (Below.refl _ _).alloc (Nat.le_refl _) o
theorem bgrow2 (w : World) (o o' : Obj) : Below w.heap.size w ((w.alloc o).alloc o') := (bgrow w o).trans ((bgrow _ o').mono (bgrow w o).size)
theorem cell_new0 (w : World) (u : Value) (cs : List Value) (t : TypeId) : (w.alloc (.cells (u :: cs).toArray t)).cell? ⟨w.heap.size, 0, none⟩ = some u := by
  have hK := heap_alloc_new w (.cells (u :: cs).toArray t)
  generalize (w.alloc (.cells (u :: cs).toArray t)) = w' at *
  simp [World.cell?, hK]
theorem cell_new1 (w : World) (u u' : Value) (cs : List Value) (t : TypeId) : (w.alloc (.cells (u :: u' :: cs).toArray t)).cell? ⟨w.heap.size, 1, none⟩ = some u' := by
  have hK := heap_alloc_new w (.cells (u :: u' :: cs).toArray t)
  generalize (w.alloc (.cells (u :: u' :: cs).toArray t)) = w' at *
  simp [World.cell?, hK]
theorem size_alloc (w : World) (o : Obj) : (w.alloc o).heap.size = w.heap.size + 1 := by simp

theorem bcell3 {w : World} {b : Nat} {u v x : Value} {t : TypeId} (h : w.heap[b]? = some (.cells #[u, v, x] t (0, 0))) : w.cell? ⟨b, 0, none⟩ = some u ∧ w.cell? ⟨b, 1, none⟩ = some v ∧ w.cell? ⟨b, 2, none⟩ = some x :=
  ⟨by simp [World.cell?, h], by simp [World.cell?, h], by simp [World.cell?, h]⟩

theorem blk_kept2 {w w' : World} {b : Nat} {o : Obj} (h : w.heap[b]? = some o) (hb : Below w.heap.size w w') : w'.heap[b]? = some o := (hb.block b (lt_of_block h)).trans h

theorem bfind_any (b : Bs) (v : Value) (nm : ByteArray) (w : World) (hv : BaseAt w v b) :
    Calls Tryz.prog 58 #[v, .string nm] w fun e w' => e = .returned (.int .i64 (posI (hasName nm) b.rules)) ∧ Below w.heap.size w w' := by
  obtain ⟨a1, a2, a3, c1, c2, c3, rfl, -, -, -, -, -, -, -, hr, -⟩ := hv.form
  have HR := hidIt (hr.below (bgrow2 w (.cells #[.slice a1 b.prems.length c1, .slice a2 b.rules.length c2, .slice a3 b.proms.length c3] 32) (.cells #[.string nm] 9)))
  have HG := hidIt (bgrow2 w (.cells #[.slice a1 b.prems.length c1, .slice a2 b.rules.length c2, .slice a3 b.proms.length c3] 32) (.cells #[.string nm] 9))
  have HC := hidIt (cell_new0 (w.alloc (.cells #[.slice a1 b.prems.length c1, .slice a2 b.rules.length c2, .slice a3 b.proms.length c3] 32)) (.string nm) [] 9)
  rw [size_alloc] at HC
  clear hv hr
  go_enter Tryz.func58, Tryz.ntmps58
  go_wp2_with fail
  refine (idxRule_any b.rules _ nm (w.heap.size + 1) _ HR.out HC.out (by simp)).mono ?_
  rintro e w1 ⟨rfl, hb⟩
  have HB := hidIt (HG.out.trans (hb.mono HG.out.size))
  clear hb
  go_wp2_with fail
  go_ret
  exact ⟨rfl, HB.out⟩

theorem bpremise_any (b : Bs) (v : Value) (x : Lt) (w : World) (hv : BaseAt w v b) :
    Calls Tryz.prog 144 #[v, .agg #[.bool x.neg, .string x.name]] w fun e w' => e = .returned (.int .i64 (posI (hasLit x) b.prems)) ∧ Below w.heap.size w w' := by
  obtain ⟨a1, a2, a3, c1, c2, c3, rfl, -, -, -, -, -, -, hr, -, -⟩ := hv.form
  have HR := hidIt (hr.below (bgrow2 w (.cells #[.slice a1 b.prems.length c1, .slice a2 b.rules.length c2, .slice a3 b.proms.length c3] 32) (.cells #[.bool x.neg, .string x.name] 46)))
  have HG := hidIt (bgrow2 w (.cells #[.slice a1 b.prems.length c1, .slice a2 b.rules.length c2, .slice a3 b.proms.length c3] 32) (.cells #[.bool x.neg, .string x.name] 46))
  have HC := hidIt (cell_new0 (w.alloc (.cells #[.slice a1 b.prems.length c1, .slice a2 b.rules.length c2, .slice a3 b.proms.length c3] 32)) (.bool x.neg) [.string x.name] 46)
  have HC1 := hidIt (cell_new1 (w.alloc (.cells #[.slice a1 b.prems.length c1, .slice a2 b.rules.length c2, .slice a3 b.proms.length c3] 32)) (.bool x.neg) (.string x.name) [] 46)
  rw [size_alloc] at HC HC1
  clear hv hr
  go_enter Tryz.func144, Tryz.ntmps144
  go_wp2_with fail
  refine (idxPrem_any b.prems _ x (w.heap.size + 1) _ HR.out HC.out HC1.out (by simp)).mono ?_
  rintro e w1 ⟨rfl, hb⟩
  have HB := hidIt (HG.out.trans (hb.mono HG.out.size))
  clear hb
  go_wp2_with fail
  go_ret
  exact ⟨rfl, HB.out⟩

theorem r5find_any (b : Bs) (v : Value) (nm : ByteArray) (w : World) (hv : BaseAt w v b) :
    Calls Tryz.prog 85 #[v, .string nm] w fun e w' => e = .returned (.int .i64 (posI (hasName nm) b.rules)) ∧ Below w.heap.size w w' := by
  obtain ⟨a1, a2, a3, c1, c2, c3, rfl, -, -, hlen, hcap, -, -, -, hr, -⟩ := hv.form
  have hgr := bgrow w (.cells #[.slice a1 b.prems.length c1, .slice a2 b.rules.length c2, .slice a3 b.proms.length c3] 32)
  have HR := hidIt (hr.below hgr)
  have HG := hidIt hgr
  have HK := hidIt (heap_alloc_new w (.cells #[.slice a1 b.prems.length c1, .slice a2 b.rules.length c2, .slice a3 b.proms.length c3] 32))
  have hl1 : b.rules.length ≤ 9223372036854775807 := by unfold maxLen at hcap; omega
  clear hv hr hgr
  go_enter Tryz.func85, Tryz.ntmps85
  go_wp2_with fail
  have hpb := lt_of_block HK.out
  obtain ⟨k0, k1, k2⟩ := bcell3 HK.out
  have HK1 := hidIt k1
  have HPB := hidIt hpb
  clear k0 k1 k2 hpb
  generalize (w.alloc (.cells #[.slice a1 b.prems.length c1, .slice a2 b.rules.length c2, .slice a3 b.proms.length c3] 32)) = w1 at *
  have HROW := hidIt (RowIn.form HR.out)
  go_loopw [5] (fun i wr => ∃ k : Nat, k ≤ b.rules.length ∧ i = .int .i64 k ∧ wr = w1 ∧ Hid (∀ j (hj : j < b.rules.length), j < k → hasName nm b.rules[j] = false)) (fun i _ => b.rules.length - (intOf i).toNat)
  case atStart => exact ⟨0, Nat.zero_le _, rfl, rfl, fun j hj h => absurd h (by omega)⟩
  case round =>
    obtain ⟨k, hk, rfl, rfl, HF⟩ := hrel
    have k1 := HK1.out
    have hpb := HPB.out
    by_cases hlt : k < b.rules.length
    · have hkr := hlt
      obtain ⟨a2', c2', e2, -, -, hrow⟩ := HROW.out
      injection e2 with e2 e3 e4
      subst e2 e4
      obtain ⟨bb, off, rfl, hbl, bv, d0, d1, d2, d3, d4, d5, -⟩ := hrow k hkr
      have hltI : (k : Int) < (b.rules.length : Int) := by omega
      have hk0 : (0 : Int) ≤ (k : Int) := by omega
      clear hrow
      have HP : Hid (∀ P : Bool, (b.rules[k].name.toList == nm.toList) = P → hasName nm b.rules[k] = P) := fun P h => h
      cases hp : (b.rules[k].name.toList == nm.toList)
      · go_wp2_with fail
        go_roundw
        case rel =>
          refine ⟨k + 1, by omega, by go_num, by first | rfl | trivial, fun j hj hjk => ?_⟩
          by_cases hjj : j < k
          · exact HF.out j hj hjj
          · obtain rfl : j = k := by omega
            exact hp
        case measure => simp [intOf]; omega
      · go_wp2_with fail
        go_ret
        refine ⟨?_, HG.out⟩
        rw [posI_at (p := hasName nm) hkr hp (fun j hj => HF.out j (by omega) hj)]
        rfl
    · obtain rfl : k = b.rules.length := by omega
      go_wp2_with fail
      go_ret
      refine ⟨?_, HG.out⟩
      rw [posI_no (p := hasName nm) (fun j hj => HF.out j hj hj)]
      rfl

end Go.Proofs.YtfcoplplkbeljaaGreatDoor

namespace Go.Proofs.YtfcoplplkbeljaaGreatDoor
set_option linter.unusedVariables false
set_option linter.unusedSimpArgs false
open Go Go.RowKit

/-- The block of what append hands back: the old one, or a new one. -/
theorem append_blk5 {P : Program} {w : World} (base : Nat) (t ty e : TypeId) (i : TypeInfo) (z : Value) (ht : P.underlying t = some (.slice e)) (hi : P.info? e = some i) (hz : i.zero = some z)
    (v : Value) (n : Nat) (xs : List Value) (hown : w.ownsRow base e i.size v n xs) (a : Addr) (m c : Nat) (news : List Value) (hl : news.length = m * i.size) (hnews : ∀ j u, news[j]? = some u → w.cell? (a.add j) = some u) (h1 : ∀ u ∈ news, u.oneCell' = true)
    (hm : 0 < m) (hsmall : n + m ≤ 1000000000) (hbytes : (n + m) * i.bytes ≤ 140737488355328) {v' : Value} {w' : World} (hr : (Builtin.append_ #[t, t] ty #[v, .slice (some a) m c]).run P w = .ok v' w') :
    v'.ownBlock = v.ownBlock ∨ v'.ownBlock = some w.heap.size := by
  rcases hown.2 with ⟨rfl, rfl⟩ | ⟨g, cap, cur, rfl, -, hg, hnc, -, hcs, -⟩
  · have hx := run_append_nil (P := P) w t ty e i z ht hi hz a m c news hl hnews hm (by omega) (by have := hbytes; simp only [Nat.zero_add] at this; omega)
    rw [hx] at hr
    injection hr with hr
    rw [← hr]
    exact .inr rfl
  · by_cases hroom : n + m ≤ cap
    · have hx := run_append_room (P := P) w t ty e i ht hi g n cap cur hg a m c news hl hnews h1 hroom (by rw [hl, hcs, ← Nat.add_mul]; exact Nat.mul_le_mul_right _ hroom)
      rw [hx] at hr
      injection hr with hr
      rw [← hr]
      exact .inl rfl
    · have hx := run_append_grow (P := P) w t ty e i z ht hi hz ⟨g, 0, none⟩ n cap xs hown.1 (hown.cells (g := g) rfl) a m c news hl hnews (by omega) (by omega) (growslice_fits (by omega) hbytes)
      rw [hx] at hr
      injection hr with hr
      rw [← hr]
      exact .inr rfl

theorem addr_add0 (b j : Nat) : (⟨b, 0, none⟩ : Addr).add j = ⟨b, j, none⟩ := by unfold Addr.add; split <;> simp_all
theorem cells_news {w : World} {m : Nat} {cs : Array Value} {ty : TypeId} (h : w.heap[m]? = some (.cells cs ty (0, 0))) : ∀ j u, cs.toList[j]? = some u → w.cell? ((⟨m, 0, none⟩ : Addr).add j) = some u := by
  intro j u hj
  rw [addr_add0]
  have hj' : cs[j]? = some u := by rw [← hj, Array.getElem?_toList]
  simp [World.cell?, h, hj']

/-- The facts of a row's element type. -/
structure ElemOf (T e : TypeId) (k by' : Nat) : Prop where
  und : Tryz.prog.underlying T = some (.slice e)
  info : ∃ i z, Tryz.prog.info? e = some i ∧ i.zero = some z ∧ i.size = k ∧ i.bytes = by' ∧ z.cells.size = k
  pos : 0 < k
  small : by' ≤ 1000

theorem run_append_one {w : World} {T e : TypeId} {k by' : Nat} (hE : ElemOf T e k by') (ty : TypeId) (B : Nat) (v : Value) (n : Nat) (xs : List Value) (hown : w.ownsRow B e k v n xs)
    (m c1 : Nat) (cs : Array Value) (tm : TypeId) (hm : w.heap[m]? = some (.cells cs tm (0, 0))) (hcs : cs.size = k) (hone : ∀ u ∈ cs.toList, u.oneCell' = true) (hlen : n ≤ 1000000) (hB : B ≤ w.heap.size) :
    ∃ v' w', (Builtin.append_ #[T, T] ty #[v, .slice (some ⟨m, 0, none⟩) 1 c1]).run Tryz.prog w = .ok v' w' ∧ w'.ownsRow B e k v' (n + 1) (xs ++ cs.toList) ∧ w.grownBy w' v.ownBlock ∧ (v'.ownBlock = v.ownBlock ∨ v'.ownBlock = some w.heap.size) := by
  obtain ⟨i, z, hi, hz, hk, hb, hzc⟩ := hE.info
  have hsm := hE.small
  subst hk hb
  have hl : cs.toList.length = 1 * i.size := by rw [Array.length_toList, hcs, Nat.one_mul]
  have hby : (n + 1) * i.bytes ≤ 140737488355328 := Nat.le_trans (Nat.mul_le_mul (show n + 1 ≤ 1000001 by omega) hsm) (by decide)
  obtain ⟨v', w', hr, h2, h3, h4⟩ := run_append_own (P := Tryz.prog) w B T ty e i z i.size i.bytes hE.und hi hz rfl rfl hzc hE.pos v n xs hown ⟨m, 0, none⟩ 1 c1 _ hl (cells_news hm) hone (by unfold maxLen; omega) hby hB
  exact ⟨v', w', hr, h2, h3, append_blk5 (P := Tryz.prog) (w := w) B T ty e i z hE.und hi hz v n xs hown ⟨m, 0, none⟩ 1 c1 _ hl (cells_news hm) hone (by omega) (by omega) hby hr⟩

/-- append of one element, at a step of a walk. -/
theorem wpList_append_one {w : World} {ops : Array Oper} {rest : List Oper} {o : Oper} {a : Act} {Q : Exit → Act → World → Prop} (hgd : o.guard = none) (s x : Operand) {T e : TypeId} {k by' : Nat} (hE : ElemOf T e k by')
    (ho : o.op = .call { callee := .builtin .append, args := #[s, x], argTypes := #[T, T] }) (B : Nat) (v : Value) (n : Nat) (xs : List Value) (hs : a.eval s = v) (hown : w.ownsRow B e k v n xs)
    (m c1 : Nat) (hx : a.eval x = .slice (some ⟨m, 0, none⟩) 1 c1) (cs : Array Value) (tm : TypeId) (hm : w.heap[m]? = some (.cells cs tm (0, 0))) (hcs : cs.size = k) (hone : ∀ u ∈ cs.toList, u.oneCell' = true) (hlen : n ≤ 1000000) (hB : B ≤ w.heap.size)
    (h : ∀ v' w', w'.ownsRow B e k v' (n + 1) (xs ++ cs.toList) → w.grownBy w' v.ownBlock → (v'.ownBlock = v.ownBlock ∨ v'.ownBlock = some w.heap.size) → wpList Tryz.prog ops Q rest (a.put o.dst v') w') : wpList Tryz.prog ops Q (o :: rest) a w := by
  obtain ⟨v', w', hr, h2, h3, h4⟩ := run_append_one hE o.type B v n xs hown m c1 cs tm hm hcs hone hlen hB
  refine wpList_plain hgd fun K hK => ?_
  unfold Oper.wp execOp
  simp only [ho, resolve, invoke, builtin, Sem.run_bind, Sem.run_pure, Result.andThen_ok, List.map_toArray, List.map_cons, List.map_nil, hs, hx, hr]
  exact hK _ _ (h v' w' h2 h3 h4)

theorem step_append_one {w : World} {ops : Array Oper} {o : Oper} {a : Act} {K : Act → World → Prop} {Q : Exit → Act → World → Prop} {E : Prop} (hgd : o.guard = none) (s x : Operand) {T e : TypeId} {k by' : Nat} (hE : ElemOf T e k by')
    (ho : o.op = .call { callee := .builtin .append, args := #[s, x], argTypes := #[T, T] }) (B : Nat) (v : Value) (n : Nat) (xs : List Value) (hs : a.eval s = v) (hown : w.ownsRow B e k v n xs)
    (m c1 : Nat) (hx : a.eval x = .slice (some ⟨m, 0, none⟩) 1 c1) (cs : Array Value) (tm : TypeId) (hm : w.heap[m]? = some (.cells cs tm (0, 0))) (hcs : cs.size = k) (hone : ∀ u ∈ cs.toList, u.oneCell' = true) (hlen : n ≤ 1000000) (hB : B ≤ w.heap.size)
    (h : ∀ v' w', w'.ownsRow B e k v' (n + 1) (xs ++ cs.toList) → w.grownBy w' v.ownBlock → (v'.ownBlock = v.ownBlock ∨ v'.ownBlock = some w.heap.size) → K (a.put o.dst v') w') :
    if Region.wanted o (yielded ops a.tmps) = true then Oper.wp Tryz.prog o a w K Q else E := by
  have hw : Region.wanted o (yielded ops a.tmps) = true := by simp [Region.wanted, hgd]
  rw [if_pos hw]
  obtain ⟨v', w', hr, h2, h3, h4⟩ := run_append_one hE o.type B v n xs hown m c1 cs tm hm hcs hone hlen hB
  unfold Oper.wp execOp
  simp only [ho, resolve, invoke, builtin, Sem.run_bind, Sem.run_pure, Result.andThen_ok, List.map_toArray, List.map_cons, List.map_nil, hs, hx, hr]
  exact h v' w' h2 h3 h4

theorem infoPm : (Tryz.prog.info? 74).map (fun i => (i.zero, i.size, i.bytes)) = some (some (.agg #[.bool false, .string ⟨#[]⟩, .int .i64 0, .int .i64 0, .string ⟨#[]⟩]), 5, 56) := by kernel_rfl
theorem infoRu : (Tryz.prog.info? 64).map (fun i => (i.zero, i.size, i.bytes)) = some (some (.agg #[.string ⟨#[]⟩, .bool false, .int .i64 0, .slice none 0 0, .bool false, .string ⟨#[]⟩]), 6, 80) := by kernel_rfl
theorem infoPr : (Tryz.prog.info? 78).map (fun i => (i.zero, i.size, i.bytes)) = some (some (.agg #[.string ⟨#[]⟩, .int .i64 0, .bool false, .string ⟨#[]⟩]), 4, 48) := by kernel_rfl
theorem elem_of {T e : TypeId} {k by' : Nat} {z : Value} (hu : Tryz.prog.underlying T = some (.slice e)) (h : (Tryz.prog.info? e).map (fun i => (i.zero, i.size, i.bytes)) = some (some z, k, by')) (hz : z.cells.size = k) (hk : 0 < k) (hb : by' ≤ 1000) : ElemOf T e k by' := by
  obtain ⟨i0, hi, h0, h1, h2⟩ := info_parts h
  exact ⟨hu, ⟨i0, z, hi, h0, h1, h2, hz⟩, hk, hb⟩
theorem elemPm : ElemOf 28 74 5 56 := elem_of Tryz.underlying28 infoPm rfl (by decide) (by decide)
theorem elemRu : ElemOf 29 64 6 80 := elem_of Tryz.underlying29 infoRu rfl (by decide) (by decide)
theorem elemPr : ElemOf 30 78 4 48 := elem_of Tryz.underlying30 infoPr rfl (by decide) (by decide)

/-- The cells of one element. -/
def encPm (p : Pm) : List Value := [.bool p.lit.neg, .string p.lit.name, .int .i64 p.kind, .int .i64 p.rank, .string p.src]
def encRu (r : Ru) (bv : Value) : List Value := [.string r.name, .bool r.strict, .int .i64 r.rank, bv, .bool r.head.neg, .string r.head.name]
def encPr (p : Pr) : List Value := [.string p.rule, .int .i64 p.rank, .bool p.lit.neg, .string p.lit.name]

theorem flat_get {α : Type} (enc : α → List Value) (k : Nat) (hk : ∀ x, (enc x).length = k) : ∀ (xs : List α) (i j : Nat) (h : i < xs.length), j < k → (xs.flatMap enc)[i * k + j]? = (enc xs[i])[j]?
  | [], i, j, h, _ => by simp at h
  | x :: r, 0, j, h, hj => by
    rw [List.flatMap_cons, Nat.zero_mul, Nat.zero_add, List.getElem?_append_left (by rw [hk]; exact hj)]
    rfl
  | x :: r, i + 1, j, h, hj => by
    have ih := flat_get enc k hk r i j (by simpa using h) hj
    rw [List.flatMap_cons, List.getElem?_append_right (by rw [hk, Nat.add_mul]; omega), hk, show (i + 1) * k + j - k = i * k + j by rw [Nat.add_mul]; omega, ih]
    rfl

/-- A row that the call owns, with its cells. -/
theorem owns_cell {w : World} {B : Nat} {e : TypeId} {k : Nat} {v : Value} {n : Nat} {xs : List Value} (h : w.ownsRow B e k v n xs) {g c : Nat} {m : Nat} (hv : v = .slice (some ⟨g, 0, none⟩) m c) (j : Nat) (u : Value) (hj : xs[j]? = some u) : w.cell? ⟨g, j, none⟩ = some u := by
  subst hv
  have := World.ownsRow.cells h (g := g) rfl j u hj
  rwa [addr_add0] at this

def OwnPm (w : World) (B : Nat) (v : Value) (ps : List Pm) : Prop := w.ownsRow B 74 5 v ps.length (ps.flatMap encPm)
def OwnPr (w : World) (B : Nat) (v : Value) (ps : List Pr) : Prop := w.ownsRow B 78 4 v ps.length (ps.flatMap encPr)
/-- A body whose cells lie in blocks of S. -/
def BodyIn (w : World) (S : Nat → Prop) (v : Value) (xs : List Lt) : Prop :=
  (v = .slice none 0 0 ∧ xs = []) ∨
  ∃ (b off cap : Nat), v = .slice (some ⟨b, off, none⟩) xs.length cap ∧ xs.length ≤ cap ∧ cap ≤ maxLen ∧ b < w.heap.size ∧ S b ∧
    ∀ i (h : i < xs.length), w.cell? ⟨b, off + i * 2, none⟩ = some (.bool (xs[i]).neg) ∧ w.cell? ⟨b, off + i * 2 + 1, none⟩ = some (.string (xs[i]).name)
theorem BodyIn.at_ {w : World} {S : Nat → Prop} {v : Value} {xs : List Lt} (h : BodyIn w S v xs) : BodyAt w v xs := by
  rcases h with ⟨h, h0⟩ | ⟨b, off, cap, h1, h2, h3, h4, -, h5⟩
  · exact .inl ⟨h ▸ noRow_nil, h0⟩
  · exact .inr ⟨b, off, cap, h1, h2, h3, h4, h5⟩
theorem BodyIn.mono {w : World} {S S' : Nat → Prop} {v : Value} {xs : List Lt} (h : BodyIn w S v xs) (hS : ∀ k, S k → S' k) : BodyIn w S' v xs := by
  rcases h with h | ⟨b, off, cap, h1, h2, h3, h4, h6, h5⟩
  · exact .inl h
  · exact .inr ⟨b, off, cap, h1, h2, h3, h4, hS b h6, h5⟩
/-- It is kept by whatever leaves the blocks of S alone. -/
theorem BodyIn.kept {w w' : World} {S S' : Nat → Prop} {v : Value} {xs : List Lt} (h : BodyIn w S v xs) (hb : ∀ k, S k → k < w.heap.size → w'.heap[k]? = w.heap[k]?) (hs : w.heap.size ≤ w'.heap.size) (hS : ∀ k, S k → k < w.heap.size → S' k) : BodyIn w' S' v xs := by
  rcases h with h | ⟨b, off, cap, h1, h2, h3, h4, h6, h5⟩
  · exact .inl h
  · refine .inr ⟨b, off, cap, h1, h2, h3, by omega, hS b h6 h4, fun i hi => ?_⟩
    have e : ∀ o, w'.cell? ⟨b, o, none⟩ = w.cell? ⟨b, o, none⟩ := fun o => by unfold World.cell?; rw [hb b h6 h4]
    rw [e, e]
    exact h5 i hi
def OwnRu (w : World) (B : Nat) (S : Nat → Prop) (v : Value) (rs : List Ru) : Prop :=
  ∃ bs : List Value, bs.length = rs.length ∧ w.ownsRow B 64 6 v rs.length ((rs.zip bs).flatMap fun x => encRu x.1 x.2) ∧ ∀ i (h : i < rs.length) (h' : i < bs.length), BodyIn w (fun k => S k ∧ v.ownBlock ≠ some k) bs[i] rs[i].body

theorem OwnPm.at_ {w : World} {B : Nat} {v : Value} {ps : List Pm} (h : OwnPm w B v ps) : PmsAt w v ps := by
  rcases h.2 with ⟨rfl, h0⟩ | ⟨g, cap, cur, hv, hB, hg, hnc, hcm, -, -⟩
  · exact .inl ⟨noRow_nil, List.eq_nil_of_length_eq_zero h0⟩
  · refine .inr ⟨g, 0, cap, hv, hnc, hcm, lt_of_block hg, fun i hi => ?_⟩
    have hc := fun j (hj : j < 5) (u : Value) (hu : (encPm ps[i])[j]? = some u) => owns_cell h hv (i * 5 + j) u (by rw [flat_get encPm 5 (fun _ => rfl) ps i j hi hj]; exact hu)
    rw [Nat.zero_add]
    exact ⟨hc 0 (by decide) _ rfl, hc 1 (by decide) _ rfl, hc 2 (by decide) _ rfl, hc 3 (by decide) _ rfl, hc 4 (by decide) _ rfl⟩
theorem OwnPr.at_ {w : World} {B : Nat} {v : Value} {ps : List Pr} (h : OwnPr w B v ps) : PrsAt w v ps := by
  rcases h.2 with ⟨rfl, h0⟩ | ⟨g, cap, cur, hv, hB, hg, hnc, hcm, -, -⟩
  · exact .inl ⟨noRow_nil, List.eq_nil_of_length_eq_zero h0⟩
  · refine .inr ⟨g, 0, cap, hv, hnc, hcm, lt_of_block hg, fun i hi => ?_⟩
    have hc := fun j (hj : j < 4) (u : Value) (hu : (encPr ps[i])[j]? = some u) => owns_cell h hv (i * 4 + j) u (by rw [flat_get encPr 4 (fun _ => rfl) ps i j hi hj]; exact hu)
    rw [Nat.zero_add]
    exact ⟨hc 0 (by decide) _ rfl, hc 1 (by decide) _ rfl, hc 2 (by decide) _ rfl, hc 3 (by decide) _ rfl⟩
theorem OwnRu.at_ {w : World} {B : Nat} {S : Nat → Prop} {v : Value} {rs : List Ru} (h : OwnRu w B S v rs) : RusAt w v rs := by
  obtain ⟨bs, hl, ho, hb⟩ := h
  rcases ho.2 with ⟨rfl, h0⟩ | ⟨g, cap, cur, hv, hB, hg, hnc, hcm, -, -⟩
  · exact .inl ⟨noRow_nil, List.eq_nil_of_length_eq_zero h0⟩
  · refine .inr ⟨g, 0, cap, hv, hnc, hcm, lt_of_block hg, fun i hi => ?_⟩
    have hi2 : i < (rs.zip bs).length := by rw [List.length_zip]; omega
    have hi3 : i < bs.length := by omega
    have hc := fun j (hj : j < 6) (u : Value) (hu : (encRu rs[i] bs[i])[j]? = some u) => owns_cell ho hv (i * 6 + j) u (by
      rw [flat_get (fun x : Ru × Value => encRu x.1 x.2) 6 (fun _ => rfl) (rs.zip bs) i j hi2 hj, List.getElem_zip]; exact hu)
    rw [Nat.zero_add]
    exact ⟨bs[i], hc 0 (by decide) _ rfl, hc 1 (by decide) _ rfl, hc 2 (by decide) _ rfl, hc 3 (by decide) _ rfl, hc 4 (by decide) _ rfl, hc 5 (by decide) _ rfl, (hb i hi hi3).at_⟩

theorem owns_blk {w : World} {B : Nat} {e : TypeId} {k : Nat} {v : Value} {n : Nat} {xs : List Value} (h : w.ownsRow B e k v n xs) : ∀ g, v.ownBlock = some g → B ≤ g ∧ g < w.heap.size := World.ownsRow.lt h
/-- An owned row is kept by what leaves its block alone. -/
theorem owns_kept {w w' : World} {B : Nat} {e : TypeId} {k : Nat} {v : Value} {n : Nat} {xs : List Value} (h : w.ownsRow B e k v n xs) (hb : ∀ g, v.ownBlock = some g → w'.heap[g]? = w.heap[g]?) : w'.ownsRow B e k v n xs := by
  refine ⟨h.1, ?_⟩
  rcases h.2 with h0 | ⟨g, cap, cur, hv, hB, hg, h2⟩
  · exact .inl h0
  · exact .inr ⟨g, cap, cur, hv, hB, by rw [hb g (by rw [hv]; rfl)]; exact hg, h2⟩
theorem OwnRu.kept {w w' : World} {B : Nat} {S S' : Nat → Prop} {v : Value} {rs : List Ru} (h : OwnRu w B S v rs) (hv : ∀ g, v.ownBlock = some g → w'.heap[g]? = w.heap[g]?) (hb : ∀ k, S k → k < w.heap.size → w'.heap[k]? = w.heap[k]?) (hs : w.heap.size ≤ w'.heap.size) (hS : ∀ k, S k → k < w.heap.size → S' k) : OwnRu w' B S' v rs := by
  obtain ⟨bs, hl, ho, hf⟩ := h
  exact ⟨bs, hl, owns_kept ho hv, fun i hi hi' => (hf i hi hi').kept (fun k hk hl => hb k hk.1 hl) hs (fun k hk hl => ⟨hS k hk.1 hl, hk.2⟩)⟩
theorem OwnRu.blk {w : World} {B : Nat} {S : Nat → Prop} {v : Value} {rs : List Ru} (h : OwnRu w B S v rs) : ∀ g, v.ownBlock = some g → B ≤ g ∧ g < w.heap.size := by
  obtain ⟨bs, hl, ho, hf⟩ := h
  exact owns_blk ho

/-- What append of one rule gives. -/
theorem OwnRu.snoc {w w' : World} {B : Nat} {S : Nat → Prop} {v v' : Value} {rs : List Ru} {r : Ru} {bv : Value} {bs : List Value} (hl : bs.length = rs.length)
    (hf : ∀ i (h : i < rs.length) (h' : i < bs.length), BodyIn w (fun k => S k ∧ v.ownBlock ≠ some k) bs[i] rs[i].body)
    (h2 : w'.ownsRow B 64 6 v' (rs.length + 1) (((rs.zip bs).flatMap fun x => encRu x.1 x.2) ++ encRu r bv)) (hg : w.grownBy w' v.ownBlock) (hbl : v'.ownBlock = v.ownBlock ∨ v'.ownBlock = some w.heap.size)
    (hb : BodyIn w (fun k => S k ∧ v.ownBlock ≠ some k) bv r.body) : OwnRu w' B S v' (rs ++ [r]) := by
  have key : ∀ {u : Value} {xs : List Lt}, BodyIn w (fun k => S k ∧ v.ownBlock ≠ some k) u xs → BodyIn w' (fun k => S k ∧ v'.ownBlock ≠ some k) u xs := fun h => h.kept (fun k hk hl => hg.block k hl (fun e => hk.2 e.symm)) hg.size (fun k hk hl => ⟨hk.1, fun e => by
    rcases hbl with h | h
    · exact hk.2 (by rw [← h, e])
    · rw [h] at e; injection e with e; omega⟩)
  refine ⟨bs ++ [bv], by simp [hl], ?_, fun i hi hi' => ?_⟩
  · rw [List.zip_append (by omega), List.flatMap_append, List.length_append]
    have e : ([r].zip [bv]).flatMap (fun x => encRu x.1 x.2) = encRu r bv := by simp
    rw [e]
    exact h2
  · by_cases hi3 : i < rs.length
    · simp only [List.getElem_append_left hi3, List.getElem_append_left (show i < bs.length by omega)]
      exact key (hf i hi3 (by omega))
    · have hi4 : i = rs.length := by simp at hi; omega
      subst hi4
      simp only [List.getElem_append_right (Nat.le_refl _), List.getElem_append_right (show bs.length ≤ rs.length by omega), hl, Nat.sub_self, List.getElem_cons_zero]
      exact key hb

theorem OwnPm.snoc {w : World} {B : Nat} {v : Value} {ps : List Pm} {p : Pm} (h : w.ownsRow B 74 5 v (ps.length + 1) (ps.flatMap encPm ++ encPm p)) : OwnPm w B v (ps ++ [p]) := by
  unfold OwnPm
  rw [List.flatMap_append, List.length_append]
  simpa using h
theorem OwnPr.snoc {w : World} {B : Nat} {v : Value} {ps : List Pr} {p : Pr} (h : w.ownsRow B 78 4 v (ps.length + 1) (ps.flatMap encPr ++ encPr p)) : OwnPr w B v (ps ++ [p]) := by
  unfold OwnPr
  rw [List.flatMap_append, List.length_append]
  simpa using h
theorem OwnPm.nil (w : World) (B : Nat) : OwnPm w B (.slice none 0 0) [] := World.ownsRow_nil w B _ _
theorem OwnPr.nil (w : World) (B : Nat) : OwnPr w B (.slice none 0 0) [] := World.ownsRow_nil w B _ _
theorem OwnRu.nil (w : World) (B : Nat) (S : Nat → Prop) : OwnRu w B S (.slice none 0 0) [] := ⟨[], rfl, World.ownsRow_nil w B _ _, fun i h => by simp at h⟩
end Go.Proofs.YtfcoplplkbeljaaGreatDoor
