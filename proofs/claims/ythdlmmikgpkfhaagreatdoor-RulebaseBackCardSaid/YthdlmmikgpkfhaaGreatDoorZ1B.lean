/- The small answers about rule bases: ranks, sources, names of rules, literals that are not valid. Rule bases in memory; Find and Premise. Find and Premise, the program's and the reference's, for every rule base. -/
import Derived.Test.YthdlmmikgpkfhaaGreatDoorText
import Derived.Test.YthdlmmikgpkfhaaGreatDoorParse
import Derived.Test.YthdlmmikgpkfhaaGreatDoorKeep
import Derived.Laws.IdiomStrings

namespace Go.Proofs.YthdlmmikgpkfhaaGreatDoor
set_option linter.unusedVariables false
set_option linter.unusedSimpArgs false
open Go Go.RowKit

/-- Does the rank fit? -/
def rankB (n : Int) (ranked : Bool) : Bool := if ranked then decide (0 ≤ n) && decide (n ≤ 9) else decide (n = 0)

theorem rankFits_any (n : Int) (g : Bool) (hn : I64 n) (w : World) :
    Calls Tryz.prog 118 #[.int .i64 n, .bool g] w fun e w' => e = .returned (.bool (rankB n g)) ∧ w = w' := by
  unfold I64 at hn
  cases g
  · go_enter Tryz.func118, Tryz.ntmps118
    go_wp2
    all_goals (go_ret; refine ⟨ret_bool ?_, rfl⟩; grind [rankB])
  · go_enter Tryz.func118, Tryz.ntmps118
    go_wp2
    all_goals (go_ret; refine ⟨ret_bool ?_, rfl⟩; grind [rankB])

/-- Does the source fit? -/
def srcB (s : ByteArray) : Bool := decide (s.size = 0) || vn s

theorem sourceFits_any (s : ByteArray) (hs : s.size ≤ maxLen) (w : World) :
    Calls Tryz.prog 119 #[.string s] w fun e w' => e = .returned (.bool (srcB s)) ∧ w = w' := by
  have HS := hidIt hs
  clear hs
  by_cases h0 : s.size = 0
  · have e0 : s = ⟨#[]⟩ := by apply ByteArray.ext; exact Array.eq_empty_of_size_eq_zero h0
    subst e0
    go_enter Tryz.func119, Tryz.ntmps119
    go_wp2
    all_goals (go_ret; refine ⟨ret_bool ?_, rfl⟩; rfl)
  · have hne : s.toList.isEmpty = false := by
      rw [Lib.toList_data]
      cases h : s.data.toList with
      | nil => exact absurd (by show s.data.size = 0; rw [← Array.length_toList, h]; rfl) h0
      | cons a l => rfl
    have hne2 : ¬ s.toList = [] := by
      intro h
      rw [h] at hne
      cases hne
    have HB : Hid (srcB s = vn s) := by show _ = _; unfold srcB; rw [decide_eq_false h0]; rfl
    go_enter Tryz.func119, Tryz.ntmps119
    go_wp2_with (go_at_call 120; refine (validName_any s _ HS.out).mono ?_; rintro e w' ⟨rfl, rfl⟩)
    all_goals (go_ret; exact ⟨ret_bool HB.out.symm, rfl⟩)

theorem notValid_any (g : Bool) (s : ByteArray) (hs : s.size ≤ maxLen) (w : World) :
    Calls Tryz.prog 122 #[.agg #[.bool g, .string s]] w fun e w' => e = .returned (.bool (!vn s)) ∧ Below w.heap.size w w' := by
  have hgr : Below w.heap.size w (w.alloc (.cells #[.bool g, .string s] 28)) := (Below.refl _ _).alloc (Nat.le_refl _) _
  have HG := hidIt hgr
  clear hgr
  go_enter Tryz.func122, Tryz.ntmps122
  go_wp2_with fail
  refine (valid_any g s _ hs).mono ?_
  rintro e w1 ⟨rfl, hb⟩
  have HB := hidIt (HG.out.trans (hb.mono HG.out.size))
  clear hb
  cases h : vn s
  · go_wp2_with fail
    go_ret
    refine ⟨?_, HB.out⟩
    rw [h]; rfl
  · go_wp2_with fail
    go_ret
    refine ⟨?_, HB.out⟩
    rw [h]; rfl

/-- The name of the rule with a number: r and a letter. -/
def ruleNm (m : Nat) : ByteArray := ⟨#[114]⟩ ++ ⟨#[97 + UInt8.ofNat m]⟩

theorem conv_byte (m : Nat) (h : m < 26) (w : World) (z : Int) (hz : z = 97 + (m : Int)) :
    (convert 48 9 (.slice (some ⟨w.heap.size, 0, none⟩) 1 1)).run Tryz.prog (w.alloc (.cells #[.int .u8 z] 5)) = .ok (.string ⟨#[UInt8.ofNat (97 + m)]⟩) (w.alloc (.cells #[.int .u8 z] 5)) := by
  subst hz
  refine run_convert_bytes_back (P := Tryz.prog) _ 48 9 5 ⟨w.heap.size, 0, none⟩ 1 [UInt8.ofNat (97 + m)] Tryz.underlying48 Tryz.underlying5 Tryz.underlying9 ?_
  intro j hj
  obtain rfl : j = 0 := by simpa using hj
  have h1 : (UInt8.ofNat (97 + m)).toNat = 97 + m := by rw [UInt8.toNat_ofNat']; omega
  have e : (([UInt8.ofNat (97 + m)] : List UInt8)[0].toNat : Int) = 97 + (m : Int) := by show ((UInt8.ofNat (97 + m)).toNat : Int) = _; rw [h1]; omega
  rw [e]
  have hK := heap_alloc_new w (.cells #[.int .u8 (97 + (m : Int))] 5)
  generalize (w.alloc (.cells #[.int .u8 (97 + (m : Int))] 5)) = w' at *
  show w'.cell? ((⟨w.heap.size, 0, none⟩ : Addr).add 0) = _
  rw [Addr.add_lit]
  simp [World.cell?, hK]

set_option maxRecDepth 100000 in
theorem ruleName_any (n : Int) (hn : I64 n) (w : World) :
    Calls Tryz.prog 26 #[.int .i64 n] w fun e w' => ∃ m : Nat, e = .returned (.string (ruleNm m)) ∧ (m : Int) = modI n 26 ∧ Below w.heap.size w w' := by
  have hn' := hn
  unfold I64 at hn'
  go_enter Tryz.func26, Tryz.ntmps26
  go_wp2_with fail
  refine (mod_any n 26 (by omega) (by omega) (by omega) (by omega) w).mono ?_
  rintro e w1 ⟨rfl, rfl⟩
  have hmd := modI_bd n 26 (by omega)
  obtain ⟨m, hm⟩ : ∃ m : Nat, modI n 26 = (m : Int) := ⟨(modI n 26).toNat, by omega⟩
  rw [hm] at hmd ⊢
  have hm26 : m < 26 := by omega
  have hm0 : (0 : Int) ≤ (m : Int) := by omega
  have hmI : (m : Int) < 26 := by omega
  have hcv := conv_byte m hm26 w (97 + (m : Int)) rfl
  go_wp2_with fail
  go_ret
  exact ⟨m, rfl, hm.symm, (Below.refl _ _).alloc (Nat.le_refl _) _⟩

theorem find1_any (w : World) (nm rn hd : ByteArray) (st ng : Bool) (rk : Int) (bv : Value) (b : Nat) (hb : w.cell? ⟨b, 0, none⟩ = some (.string nm)) (hl : b < w.heap.size) :
    Calls Tryz.prog 72 #[.agg #[.string rn, .bool st, .int .i64 rk, bv, .bool ng, .string hd], .pointer (some ⟨b, 0, none⟩)] w fun e w' => e = .returned (.bool (rn.toList == nm.toList)) ∧ Below w.heap.size w w' := by
  have hgr : Below w.heap.size w (w.alloc (.cells #[.string rn, .bool st, .int .i64 rk, bv, .bool ng, .string hd] 66)) := (Below.refl _ _).alloc (Nat.le_refl _) _
  have HG := hidIt hgr
  have hb2 := (hgr.cell (p := ⟨b, 0, none⟩) hl).trans hb
  clear hgr
  go_enter Tryz.func72, Tryz.ntmps72
  go_wp2_with fail
  go_ret
  exact ⟨rfl, HG.out⟩

theorem prem1_any (w : World) (ng pg : Bool) (nm pn sr : ByteArray) (kd rk : Int) (b : Nat) (hb : w.cell? ⟨b, 0, none⟩ = some (.bool ng)) (hb1 : w.cell? ⟨b, 1, none⟩ = some (.string nm)) (hl : b < w.heap.size) :
    Calls Tryz.prog 74 #[.agg #[.bool pg, .string pn, .int .i64 kd, .int .i64 rk, .string sr], .pointer (some ⟨b, 0, none⟩)] w fun e w' => e = .returned (.bool ((pg == ng) && (pn.toList == nm.toList))) ∧ Below w.heap.size w w' := by
  have hgr : Below w.heap.size w (w.alloc (.cells #[.bool pg, .string pn, .int .i64 kd, .int .i64 rk, .string sr] 64)) := (Below.refl _ _).alloc (Nat.le_refl _) _
  have HG := hidIt hgr
  have hb2 := (hgr.cell (p := ⟨b, 0, none⟩) hl).trans hb
  have hb3 := (hgr.cell (p := ⟨b, 1, none⟩) hl).trans hb1
  clear hgr
  go_enter Tryz.func74, Tryz.ntmps74
  go_wp2_with fail
  all_goals (go_ret; refine ⟨ret_bool ?_, (Below.refl _ _).alloc (Nat.le_refl _) _⟩; simp_all)

end Go.Proofs.YthdlmmikgpkfhaaGreatDoor

namespace Go.Proofs.YthdlmmikgpkfhaaGreatDoor
set_option linter.unusedVariables false
set_option linter.unusedSimpArgs false
open Go Go.RowKit

/-- A premise, a rule, a promotion. -/
structure Pm where
  lit : Lt
  kind : Int
  rank : Int
  src : ByteArray
structure Ru where
  name : ByteArray
  strict : Bool
  rank : Int
  body : List Lt
  head : Lt
structure Pr where
  rule : ByteArray
  rank : Int
  lit : Lt

/-- An empty row, whatever its address. -/
def NoRow (v : Value) : Prop := ∃ (a : Option Addr) (c : Nat), v = .slice a 0 c ∧ c ≤ maxLen
theorem noRow_nil : NoRow (.slice none 0 0) := ⟨none, 0, rfl, by unfold maxLen; omega⟩
/-- A list of literals in memory (LitsAt says the same, but for the address of an empty one). -/
def BodyAt (w : World) (v : Value) (xs : List Lt) : Prop :=
  (NoRow v ∧ xs = []) ∨
  ∃ (b off cap : Nat), v = .slice (some ⟨b, off, none⟩) xs.length cap ∧ xs.length ≤ cap ∧ cap ≤ maxLen ∧ b < w.heap.size ∧
    ∀ i (h : i < xs.length), w.cell? ⟨b, off + i * 2, none⟩ = some (.bool (xs[i]).neg) ∧ w.cell? ⟨b, off + i * 2 + 1, none⟩ = some (.string (xs[i]).name)

/-- One premise's five cells, one rule's six, one promotion's four. -/
def PmAt (w : World) (b o : Nat) (p : Pm) : Prop :=
  w.cell? ⟨b, o, none⟩ = some (.bool p.lit.neg) ∧ w.cell? ⟨b, o + 1, none⟩ = some (.string p.lit.name) ∧ w.cell? ⟨b, o + 2, none⟩ = some (.int .i64 p.kind) ∧ w.cell? ⟨b, o + 3, none⟩ = some (.int .i64 p.rank) ∧ w.cell? ⟨b, o + 4, none⟩ = some (.string p.src)
def RuAt (w : World) (b o : Nat) (r : Ru) : Prop :=
  ∃ bv : Value, w.cell? ⟨b, o, none⟩ = some (.string r.name) ∧ w.cell? ⟨b, o + 1, none⟩ = some (.bool r.strict) ∧ w.cell? ⟨b, o + 2, none⟩ = some (.int .i64 r.rank) ∧ w.cell? ⟨b, o + 3, none⟩ = some bv ∧
    w.cell? ⟨b, o + 4, none⟩ = some (.bool r.head.neg) ∧ w.cell? ⟨b, o + 5, none⟩ = some (.string r.head.name) ∧ BodyAt w bv r.body
def PrAt (w : World) (b o : Nat) (p : Pr) : Prop :=
  w.cell? ⟨b, o, none⟩ = some (.string p.rule) ∧ w.cell? ⟨b, o + 1, none⟩ = some (.int .i64 p.rank) ∧ w.cell? ⟨b, o + 2, none⟩ = some (.bool p.lit.neg) ∧ w.cell? ⟨b, o + 3, none⟩ = some (.string p.lit.name)

/-- A row of such things, k cells each. -/
def RowIn {α : Type} (k : Nat) (At : World → Nat → Nat → α → Prop) (w : World) (v : Value) (xs : List α) : Prop :=
  (NoRow v ∧ xs = []) ∨
  ∃ (b off cap : Nat), v = .slice (some ⟨b, off, none⟩) xs.length cap ∧ xs.length ≤ cap ∧ cap ≤ maxLen ∧ b < w.heap.size ∧ ∀ i (h : i < xs.length), At w b (off + i * k) xs[i]

def PmsAt : World → Value → List Pm → Prop := RowIn 5 PmAt
def RusAt : World → Value → List Ru → Prop := RowIn 6 RuAt
def PrsAt : World → Value → List Pr → Prop := RowIn 4 PrAt

theorem BodyAt.below {w w' : World} {v : Value} {xs : List Lt} (h : BodyAt w v xs) (hb : Below w.heap.size w w') : BodyAt w' v xs := by
  rcases h with h | ⟨b, off, cap, h1, h2, h3, h4, h5⟩
  · exact .inl h
  · exact .inr ⟨b, off, cap, h1, h2, h3, Nat.lt_of_lt_of_le h4 hb.size, fun i hi => ⟨(hb.cell (p := ⟨b, off + i * 2, none⟩) h4).trans (h5 i hi).1, (hb.cell (p := ⟨b, off + i * 2 + 1, none⟩) h4).trans (h5 i hi).2⟩⟩
theorem PmAt.below {w w' : World} {b o : Nat} {p : Pm} (h : PmAt w b o p) (hb : Below w.heap.size w w') (hl : b < w.heap.size) : PmAt w' b o p :=
  ⟨(hb.cell (p := ⟨b, _, none⟩) hl).trans h.1, (hb.cell (p := ⟨b, _, none⟩) hl).trans h.2.1, (hb.cell (p := ⟨b, _, none⟩) hl).trans h.2.2.1, (hb.cell (p := ⟨b, _, none⟩) hl).trans h.2.2.2.1, (hb.cell (p := ⟨b, _, none⟩) hl).trans h.2.2.2.2⟩
theorem PrAt.below {w w' : World} {b o : Nat} {p : Pr} (h : PrAt w b o p) (hb : Below w.heap.size w w') (hl : b < w.heap.size) : PrAt w' b o p :=
  ⟨(hb.cell (p := ⟨b, _, none⟩) hl).trans h.1, (hb.cell (p := ⟨b, _, none⟩) hl).trans h.2.1, (hb.cell (p := ⟨b, _, none⟩) hl).trans h.2.2.1, (hb.cell (p := ⟨b, _, none⟩) hl).trans h.2.2.2⟩
theorem RuAt.below {w w' : World} {b o : Nat} {r : Ru} (h : RuAt w b o r) (hb : Below w.heap.size w w') (hl : b < w.heap.size) : RuAt w' b o r := by
  obtain ⟨bv, h0, h1, h2, h3, h4, h5, h6⟩ := h
  exact ⟨bv, (hb.cell (p := ⟨b, _, none⟩) hl).trans h0, (hb.cell (p := ⟨b, _, none⟩) hl).trans h1, (hb.cell (p := ⟨b, _, none⟩) hl).trans h2, (hb.cell (p := ⟨b, _, none⟩) hl).trans h3, (hb.cell (p := ⟨b, _, none⟩) hl).trans h4, (hb.cell (p := ⟨b, _, none⟩) hl).trans h5, h6.below hb⟩
theorem RowIn.below {α : Type} {k : Nat} {At : World → Nat → Nat → α → Prop} (hA : ∀ w w' b o x, At w b o x → Below w.heap.size w w' → b < w.heap.size → At w' b o x) {w w' : World} {v : Value} {xs : List α} (h : RowIn k At w v xs) (hb : Below w.heap.size w w') : RowIn k At w' v xs := by
  rcases h with h | ⟨b, off, cap, h1, h2, h3, h4, h5⟩
  · exact .inl h
  · exact .inr ⟨b, off, cap, h1, h2, h3, Nat.lt_of_lt_of_le h4 hb.size, fun i hi => hA _ _ _ _ _ (h5 i hi) hb h4⟩
theorem RusAt.below {w w' : World} {v : Value} {xs : List Ru} (h : RusAt w v xs) (hb : Below w.heap.size w w') : RusAt w' v xs := RowIn.below (fun _ _ _ _ _ h hb hl => h.below hb hl) h hb
theorem PmsAt.below {w w' : World} {v : Value} {xs : List Pm} (h : PmsAt w v xs) (hb : Below w.heap.size w w') : PmsAt w' v xs := RowIn.below (fun _ _ _ _ _ h hb hl => h.below hb hl) h hb
theorem PrsAt.below {w w' : World} {v : Value} {xs : List Pr} (h : PrsAt w v xs) (hb : Below w.heap.size w w') : PrsAt w' v xs := RowIn.below (fun _ _ _ _ _ h hb hl => h.below hb hl) h hb

/-- The row's header as a walk wants it: one address, whether or not there is one. -/
theorem RowIn.form {α : Type} {k : Nat} {At : World → Nat → Nat → α → Prop} {w : World} {v : Value} {xs : List α} (h : RowIn k At w v xs) :
    ∃ (a : Option Addr) (cap : Nat), v = .slice a xs.length cap ∧ xs.length ≤ cap ∧ cap ≤ maxLen ∧ ∀ i (h : i < xs.length), ∃ b off : Nat, a = some ⟨b, off, none⟩ ∧ b < w.heap.size ∧ At w b (off + i * k) xs[i] := by
  rcases h with ⟨⟨a, c, h1, hc⟩, h2⟩ | ⟨b, off, cap, h1, h2, h3, h4, h5⟩
  · subst h2
    exact ⟨a, c, h1, by simp, hc, fun i hi => absurd hi (by simp)⟩
  · exact ⟨_, cap, h1, h2, h3, fun i hi => ⟨b, off, rfl, h4, h5 i hi⟩⟩

/-- The first place at which p holds, or -1. -/
def posI {α : Type} (p : α → Bool) (xs : List α) : Int := if xs.findIdx p < xs.length then (xs.findIdx p : Int) else -1
theorem posI_at {α : Type} {p : α → Bool} {xs : List α} {k : Nat} (hk : k < xs.length) (hp : p xs[k] = true) (hn : ∀ j (hj : j < k), p (xs[j]'(by omega)) = false) : posI p xs = (k : Int) := by
  have e : xs.findIdx p = k := by
    rw [List.findIdx_eq hk]
    exact ⟨hp, fun j hj => by rw [hn j hj]⟩
  unfold posI
  rw [e, if_pos hk]
theorem posI_no {α : Type} {p : α → Bool} {xs : List α} (hn : ∀ j (hj : j < xs.length), p xs[j] = false) : posI p xs = -1 := by
  have e : xs.findIdx p = xs.length := by
    rw [List.findIdx_eq_length]
    intro x hx
    obtain ⟨j, hj, rfl⟩ := List.getElem_of_mem hx
    rw [hn j hj]
  unfold posI
  rw [e, if_neg (Nat.lt_irrefl _)]

/-- Has the rule this name? -/
def hasName (nm : ByteArray) (r : Ru) : Bool := r.name.toList == nm.toList

set_option maxHeartbeats 1000000 in
theorem idxRule_any (rs : List Ru) (v : Value) (nm : ByteArray) (m : Nat) (w : World) (hv : RusAt w v rs) (hc : w.cell? ⟨m, 0, none⟩ = some (.string nm)) (hm : m < w.heap.size) :
    Calls Tryz.prog 71 #[v, .func (Fn.func 72) #[] #[.pointer (some ⟨m, 0, none⟩)]] w fun e w' => e = .returned (.int .i64 (posI (hasName nm) rs)) ∧ Below w.heap.size w w' := by
  obtain ⟨a, cap, rfl, hlen, hcap, hrow⟩ := hv.form
  have HR := hidIt hrow
  have HC := hidIt hc
  have HM := hidIt hm
  have hl1 : rs.length ≤ 9223372036854775807 := by unfold maxLen at hcap; omega
  clear hrow hv hc hm
  go_enter Tryz.func71, Tryz.ntmps71
  go_wp2_with fail
  go_loopw [5, 8] (fun _ i wr => ∃ k : Nat, k ≤ rs.length ∧ i = .int .i64 k ∧ Hid (Below w.heap.size w wr) ∧ Hid (∀ j (hj : j < rs.length), j < k → hasName nm rs[j] = false)) (fun _ i _ => rs.length - (intOf i).toNat)
  case atStart => exact ⟨0, Nat.zero_le _, rfl, Below.refl _ _, fun j hj h => absurd h (by omega)⟩
  case round =>
    obtain ⟨k, hk, rfl, HB, HF⟩ := hrel
    by_cases hlt : k < rs.length
    · have hkr := hlt
      obtain ⟨b, off, rfl, hbl, bv, c0, c1, c2, c3, c4, c5, -⟩ := HR.out k hkr
      have hltI : (k : Int) < (rs.length : Int) := by omega
      have hk0 : (0 : Int) ≤ (k : Int) := by omega
      have d0 := (HB.out.cell (p := ⟨b, off + k * 6, none⟩) hbl).trans c0
      have d1 := (HB.out.cell (p := ⟨b, off + k * 6 + 1, none⟩) hbl).trans c1
      have d2 := (HB.out.cell (p := ⟨b, off + k * 6 + 2, none⟩) hbl).trans c2
      have d3 := (HB.out.cell (p := ⟨b, off + k * 6 + 3, none⟩) hbl).trans c3
      have d4 := (HB.out.cell (p := ⟨b, off + k * 6 + 4, none⟩) hbl).trans c4
      have d5 := (HB.out.cell (p := ⟨b, off + k * 6 + 5, none⟩) hbl).trans c5
      have hbl2 := Nat.lt_of_lt_of_le hbl HB.out.size
      clear c0 c1 c2 c3 c4 c5
      go_wp2_with fail
      refine (find1_any wr nm rs[k].name rs[k].head.name rs[k].strict rs[k].head.neg rs[k].rank bv m ((HB.out.cell (p := ⟨m, 0, none⟩) HM.out).trans HC.out) (Nat.lt_of_lt_of_le HM.out HB.out.size)).mono ?_
      rintro e w1 ⟨rfl, hb1⟩
      have HB1 := hidIt (HB.out.trans (hb1.mono HB.out.size))
      clear hb1 d0 d1 d2 d3 d4 d5
      cases hp : (rs[k].name.toList == nm.toList)
      · go_wp2_with fail
        go_roundw
        case rel =>
          refine ⟨k + 1, by omega, by go_num, HB1, fun j hj hjk => ?_⟩
          by_cases hjj : j < k
          · exact HF.out j hj hjj
          · obtain rfl : j = k := by omega
            exact hp
        case measure => simp [intOf]; omega
      · go_wp2_with fail
        go_ret
        refine ⟨?_, HB1.out⟩
        rw [posI_at (p := hasName nm) hkr hp (fun j hj => HF.out j (by omega) hj)]
        rfl
    · obtain rfl : k = rs.length := by omega
      go_wp2_with fail
      go_ret
      refine ⟨?_, HB.out⟩
      rw [posI_no (p := hasName nm) (fun j hj => HF.out j hj hj)]
      rfl

/-- Is it this literal's premise? -/
def hasLit (x : Lt) (p : Pm) : Bool := (p.lit.neg == x.neg) && (p.lit.name.toList == x.name.toList)

set_option maxHeartbeats 1000000 in
theorem idxPrem_any (rs : List Pm) (v : Value) (x : Lt) (m : Nat) (w : World) (hv : PmsAt w v rs) (hc : w.cell? ⟨m, 0, none⟩ = some (.bool x.neg)) (hc1 : w.cell? ⟨m, 1, none⟩ = some (.string x.name)) (hm : m < w.heap.size) :
    Calls Tryz.prog 73 #[v, .func (Fn.func 74) #[] #[.pointer (some ⟨m, 0, none⟩)]] w fun e w' => e = .returned (.int .i64 (posI (hasLit x) rs)) ∧ Below w.heap.size w w' := by
  obtain ⟨a, cap, rfl, hlen, hcap, hrow⟩ := hv.form
  have HR := hidIt hrow
  have HC := hidIt hc
  have HC1 := hidIt hc1
  have HM := hidIt hm
  have hl1 : rs.length ≤ 9223372036854775807 := by unfold maxLen at hcap; omega
  clear hrow hv hc hc1 hm
  go_enter Tryz.func73, Tryz.ntmps73
  go_wp2_with fail
  go_loopw [5, 8] (fun _ i wr => ∃ k : Nat, k ≤ rs.length ∧ i = .int .i64 k ∧ Hid (Below w.heap.size w wr) ∧ Hid (∀ j (hj : j < rs.length), j < k → hasLit x rs[j] = false)) (fun _ i _ => rs.length - (intOf i).toNat)
  case atStart => exact ⟨0, Nat.zero_le _, rfl, Below.refl _ _, fun j hj h => absurd h (by omega)⟩
  case round =>
    obtain ⟨k, hk, rfl, HB, HF⟩ := hrel
    by_cases hlt : k < rs.length
    · have hkr := hlt
      obtain ⟨b, off, rfl, hbl, c0, c1, c2, c3, c4⟩ := HR.out k hkr
      have hltI : (k : Int) < (rs.length : Int) := by omega
      have hk0 : (0 : Int) ≤ (k : Int) := by omega
      have d0 := (HB.out.cell (p := ⟨b, off + k * 5, none⟩) hbl).trans c0
      have d1 := (HB.out.cell (p := ⟨b, off + k * 5 + 1, none⟩) hbl).trans c1
      have d2 := (HB.out.cell (p := ⟨b, off + k * 5 + 2, none⟩) hbl).trans c2
      have d3 := (HB.out.cell (p := ⟨b, off + k * 5 + 3, none⟩) hbl).trans c3
      have d4 := (HB.out.cell (p := ⟨b, off + k * 5 + 4, none⟩) hbl).trans c4
      have hbl2 := Nat.lt_of_lt_of_le hbl HB.out.size
      clear c0 c1 c2 c3 c4
      go_wp2_with fail
      refine (prem1_any wr x.neg rs[k].lit.neg x.name rs[k].lit.name rs[k].src rs[k].kind rs[k].rank m ((HB.out.cell (p := ⟨m, 0, none⟩) HM.out).trans HC.out) ((HB.out.cell (p := ⟨m, 1, none⟩) HM.out).trans HC1.out) (Nat.lt_of_lt_of_le HM.out HB.out.size)).mono ?_
      rintro e w1 ⟨rfl, hb1⟩
      have HB1 := hidIt (HB.out.trans (hb1.mono HB.out.size))
      clear hb1 d0 d1 d2 d3 d4
      cases hp : ((rs[k].lit.neg == x.neg) && (rs[k].lit.name.toList == x.name.toList))
      · go_wp2_with fail
        go_roundw
        case rel =>
          refine ⟨k + 1, by omega, by go_num, HB1, fun j hj hjk => ?_⟩
          by_cases hjj : j < k
          · exact HF.out j hj hjj
          · obtain rfl : j = k := by omega
            exact hp
        case measure => simp [intOf]; omega
      · go_wp2_with fail
        go_ret
        refine ⟨?_, HB1.out⟩
        rw [posI_at (p := hasLit x) hkr hp (fun j hj => HF.out j (by omega) hj)]
        rfl
    · obtain rfl : k = rs.length := by omega
      go_wp2_with fail
      go_ret
      refine ⟨?_, HB.out⟩
      rw [posI_no (p := hasLit x) (fun j hj => HF.out j hj hj)]
      rfl

end Go.Proofs.YthdlmmikgpkfhaaGreatDoor

namespace Go.Proofs.YthdlmmikgpkfhaaGreatDoor
set_option linter.unusedVariables false
set_option linter.unusedSimpArgs false
open Go Go.RowKit

/-- A rule base. -/
structure Bs where
  prems : List Pm
  rules : List Ru
  proms : List Pr

def BaseAt (w : World) (v : Value) (b : Bs) : Prop := ∃ pv rv qv : Value, v = .agg #[pv, rv, qv] ∧ PmsAt w pv b.prems ∧ RusAt w rv b.rules ∧ PrsAt w qv b.proms
theorem BaseAt.below {w w' : World} {v : Value} {b : Bs} (h : BaseAt w v b) (hb : Below w.heap.size w w') : BaseAt w' v b := by
  obtain ⟨pv, rv, qv, h1, h2, h3, h4⟩ := h
  exact ⟨pv, rv, qv, h1, h2.below hb, h3.below hb, h4.below hb⟩
theorem BaseAt.form {w : World} {v : Value} {b : Bs} (h : BaseAt w v b) : ∃ (a1 a2 a3 : Option Addr) (c1 c2 c3 : Nat), v = .agg #[.slice a1 b.prems.length c1, .slice a2 b.rules.length c2, .slice a3 b.proms.length c3] ∧
    b.prems.length ≤ c1 ∧ c1 ≤ maxLen ∧ b.rules.length ≤ c2 ∧ c2 ≤ maxLen ∧ b.proms.length ≤ c3 ∧ c3 ≤ maxLen ∧
    PmsAt w (.slice a1 b.prems.length c1) b.prems ∧ RusAt w (.slice a2 b.rules.length c2) b.rules ∧ PrsAt w (.slice a3 b.proms.length c3) b.proms := by
  obtain ⟨pv, rv, qv, h1, h2, h3, h4⟩ := h
  obtain ⟨a1, c1, rfl, l1, m1, -⟩ := RowIn.form h2
  obtain ⟨a2, c2, rfl, l2, m2, -⟩ := RowIn.form h3
  obtain ⟨a3, c3, rfl, l3, m3, -⟩ := RowIn.form h4
  exact ⟨a1, a2, a3, c1, c2, c3, h1, l1, m1, l2, m2, l3, m3, h2, h3, h4⟩

theorem bgrow (w : World) (o : Obj) : Below w.heap.size w (w.alloc o) := (Below.refl _ _).alloc (Nat.le_refl _) o
theorem bgrow2 (w : World) (o o' : Obj) : Below w.heap.size w ((w.alloc o).alloc o') := (bgrow w o).trans ((bgrow _ o').mono (bgrow w o).size)
theorem cell_new0 (w : World) (u : Value) (cs : List Value) (t : TypeId) : (w.alloc (.cells (u :: cs).toArray t)).cell? ⟨w.heap.size, 0, none⟩ = some u := by
  have hK := heap_alloc_new w (.cells (u :: cs).toArray t)
  generalize (w.alloc (.cells (u :: cs).toArray t)) = w' at *
  simp [World.cell?, hK]
theorem cell_new1 (w : World) (u u' : Value) (cs : List Value) (t : TypeId) : (w.alloc (.cells (u :: u' :: cs).toArray t)).cell? ⟨w.heap.size, 1, none⟩ = some u' := by
  have hK := heap_alloc_new w (.cells (u :: u' :: cs).toArray t)
  generalize (w.alloc (.cells (u :: u' :: cs).toArray t)) = w' at *
  simp [World.cell?, hK]
theorem size_alloc (w : World) (o : Obj) : (w.alloc o).heap.size = w.heap.size + 1 := by simp

theorem bcell3 {w : World} {b : Nat} {u v x : Value} {t : TypeId} (h : w.heap[b]? = some (.cells #[u, v, x] t (0, 0))) : w.cell? ⟨b, 0, none⟩ = some u ∧ w.cell? ⟨b, 1, none⟩ = some v ∧ w.cell? ⟨b, 2, none⟩ = some x :=
  ⟨by simp [World.cell?, h], by simp [World.cell?, h], by simp [World.cell?, h]⟩

theorem blk_kept2 {w w' : World} {b : Nat} {o : Obj} (h : w.heap[b]? = some o) (hb : Below w.heap.size w w') : w'.heap[b]? = some o := (hb.block b (lt_of_block h)).trans h

theorem bfind_any (b : Bs) (v : Value) (nm : ByteArray) (w : World) (hv : BaseAt w v b) :
    Calls Tryz.prog 21 #[v, .string nm] w fun e w' => e = .returned (.int .i64 (posI (hasName nm) b.rules)) ∧ Below w.heap.size w w' := by
  obtain ⟨a1, a2, a3, c1, c2, c3, rfl, -, -, -, -, -, -, -, hr, -⟩ := hv.form
  have HR := hidIt (hr.below (bgrow2 w (.cells #[.slice a1 b.prems.length c1, .slice a2 b.rules.length c2, .slice a3 b.proms.length c3] 26) (.cells #[.string nm] 9)))
  have HG := hidIt (bgrow2 w (.cells #[.slice a1 b.prems.length c1, .slice a2 b.rules.length c2, .slice a3 b.proms.length c3] 26) (.cells #[.string nm] 9))
  have HC := hidIt (cell_new0 (w.alloc (.cells #[.slice a1 b.prems.length c1, .slice a2 b.rules.length c2, .slice a3 b.proms.length c3] 26)) (.string nm) [] 9)
  rw [size_alloc] at HC
  clear hv hr
  go_enter Tryz.func21, Tryz.ntmps21
  go_wp2_with fail
  refine (idxRule_any b.rules _ nm (w.heap.size + 1) _ HR.out HC.out (by simp)).mono ?_
  rintro e w1 ⟨rfl, hb⟩
  have HB := hidIt (HG.out.trans (hb.mono HG.out.size))
  clear hb
  go_wp2_with fail
  go_ret
  exact ⟨rfl, HB.out⟩

theorem bpremise_any (b : Bs) (v : Value) (x : Lt) (w : World) (hv : BaseAt w v b) :
    Calls Tryz.prog 23 #[v, .agg #[.bool x.neg, .string x.name]] w fun e w' => e = .returned (.int .i64 (posI (hasLit x) b.prems)) ∧ Below w.heap.size w w' := by
  obtain ⟨a1, a2, a3, c1, c2, c3, rfl, -, -, -, -, -, -, hr, -, -⟩ := hv.form
  have HR := hidIt (hr.below (bgrow2 w (.cells #[.slice a1 b.prems.length c1, .slice a2 b.rules.length c2, .slice a3 b.proms.length c3] 26) (.cells #[.bool x.neg, .string x.name] 28)))
  have HG := hidIt (bgrow2 w (.cells #[.slice a1 b.prems.length c1, .slice a2 b.rules.length c2, .slice a3 b.proms.length c3] 26) (.cells #[.bool x.neg, .string x.name] 28))
  have HC := hidIt (cell_new0 (w.alloc (.cells #[.slice a1 b.prems.length c1, .slice a2 b.rules.length c2, .slice a3 b.proms.length c3] 26)) (.bool x.neg) [.string x.name] 28)
  have HC1 := hidIt (cell_new1 (w.alloc (.cells #[.slice a1 b.prems.length c1, .slice a2 b.rules.length c2, .slice a3 b.proms.length c3] 26)) (.bool x.neg) (.string x.name) [] 28)
  rw [size_alloc] at HC HC1
  clear hv hr
  go_enter Tryz.func23, Tryz.ntmps23
  go_wp2_with fail
  refine (idxPrem_any b.prems _ x (w.heap.size + 1) _ HR.out HC.out HC1.out (by simp)).mono ?_
  rintro e w1 ⟨rfl, hb⟩
  have HB := hidIt (HG.out.trans (hb.mono HG.out.size))
  clear hb
  go_wp2_with fail
  go_ret
  exact ⟨rfl, HB.out⟩

theorem r5find_any (b : Bs) (v : Value) (nm : ByteArray) (w : World) (hv : BaseAt w v b) :
    Calls Tryz.prog 22 #[v, .string nm] w fun e w' => e = .returned (.int .i64 (posI (hasName nm) b.rules)) ∧ Below w.heap.size w w' := by
  obtain ⟨a1, a2, a3, c1, c2, c3, rfl, -, -, hlen, hcap, -, -, -, hr, -⟩ := hv.form
  have hgr := bgrow w (.cells #[.slice a1 b.prems.length c1, .slice a2 b.rules.length c2, .slice a3 b.proms.length c3] 26)
  have HR := hidIt (hr.below hgr)
  have HG := hidIt hgr
  have HK := hidIt (heap_alloc_new w (.cells #[.slice a1 b.prems.length c1, .slice a2 b.rules.length c2, .slice a3 b.proms.length c3] 26))
  have hl1 : b.rules.length ≤ 9223372036854775807 := by unfold maxLen at hcap; omega
  clear hv hr hgr
  go_enter Tryz.func22, Tryz.ntmps22
  go_wp2_with fail
  have hpb := lt_of_block HK.out
  obtain ⟨k0, k1, k2⟩ := bcell3 HK.out
  have HK1 := hidIt k1
  have HPB := hidIt hpb
  clear k0 k1 k2 hpb
  generalize (w.alloc (.cells #[.slice a1 b.prems.length c1, .slice a2 b.rules.length c2, .slice a3 b.proms.length c3] 26)) = w1 at *
  have HROW := hidIt (RowIn.form HR.out)
  go_loopw [5] (fun i wr => ∃ k : Nat, k ≤ b.rules.length ∧ i = .int .i64 k ∧ wr = w1 ∧ Hid (∀ j (hj : j < b.rules.length), j < k → hasName nm b.rules[j] = false)) (fun i _ => b.rules.length - (intOf i).toNat)
  case atStart => exact ⟨0, Nat.zero_le _, rfl, rfl, fun j hj h => absurd h (by omega)⟩
  case round =>
    obtain ⟨k, hk, rfl, rfl, HF⟩ := hrel
    have k1 := HK1.out
    have hpb := HPB.out
    by_cases hlt : k < b.rules.length
    · have hkr := hlt
      obtain ⟨a2', c2', e2, -, -, hrow⟩ := HROW.out
      injection e2 with e2 e3 e4
      subst e2 e4
      obtain ⟨bb, off, rfl, hbl, bv, d0, d1, d2, d3, d4, d5, -⟩ := hrow k hkr
      have hltI : (k : Int) < (b.rules.length : Int) := by omega
      have hk0 : (0 : Int) ≤ (k : Int) := by omega
      clear hrow
      have HP : Hid (∀ P : Bool, (b.rules[k].name.toList == nm.toList) = P → hasName nm b.rules[k] = P) := fun P h => h
      cases hp : (b.rules[k].name.toList == nm.toList)
      · go_wp2_with fail
        go_roundw
        case rel =>
          refine ⟨k + 1, by omega, by go_num, by first | rfl | trivial, fun j hj hjk => ?_⟩
          by_cases hjj : j < k
          · exact HF.out j hj hjj
          · obtain rfl : j = k := by omega
            exact hp
        case measure => simp [intOf]; omega
      · go_wp2_with fail
        go_ret
        refine ⟨?_, HG.out⟩
        rw [posI_at (p := hasName nm) hkr hp (fun j hj => HF.out j (by omega) hj)]
        rfl
    · obtain rfl : k = b.rules.length := by omega
      go_wp2_with fail
      go_ret
      refine ⟨?_, HG.out⟩
      rw [posI_no (p := hasName nm) (fun j hj => HF.out j hj hj)]
      rfl

end Go.Proofs.YthdlmmikgpkfhaaGreatDoor
