/- Literals as values, and the calls that build one from numbers. Texts of literals: what Valid, Format and Parse answer, of the program and of the document's own answers, for every literal and every string. The text of a literal is read: what Parse answers, for every string. The small answers about rule bases: ranks, sources, names of rules, literals that are not valid. Rule bases in memory; Find and Premise. Find and Premise, the program's and the reference's, for every rule base. What the reader of lines answers, in plain words: its words, names, literals, ranks and lines' things. The reader of words in memory; its first calls. -/
import Derived.Lib.Strings
import Derived.Laws.IdiomStrings
import Derived.Lib.SpaceU
import Derived.Lib.AtoiAll
import Derived.Lib.IndexMore
import Derived.Test.YtmhloapjadhifaaGreatDoorRLA

namespace Go.Proofs.YtmhloapjadhifaaGreatDoor
set_option linter.unusedVariables false
set_option linter.unusedSimpArgs false
open Go.RowKit

/-- A literal as the model has it. -/
structure Lt where
  neg : Bool
  name : ByteArray
deriving DecidableEq

def Lt.val (x : Lt) : Value := .agg #[.bool x.neg, .string x.name]

/-- The name of one letter. -/
def letter (m : Nat) : ByteArray := ⟨#[UInt8.ofNat (97 + m)]⟩

/-- The two cells of a block that was laid ahead of a call. -/
theorem laid_two {w w' : World} {u v : Value} {t : TypeId} {row : Option Nat} (hg : (w.alloc (.cells #[u, v] t)).grownBy w' row) (hr : row ≠ some w.heap.size) : w'.heap[w.heap.size]? = some (.cells #[u, v] t (0, 0)) := by
  rw [hg.block w.heap.size (by simp) (fun e => hr e.symm)]
  exact heap_alloc_new w _

theorem i64_and1 (n : Int) : bits .and .i64 n 1 = n % 2 := by
  have h1 : (BitVec.ofInt 64 1).toNat = 2 ^ 1 - 1 := by decide
  have key : (BitVec.ofInt 64 n &&& BitVec.ofInt 64 1).toNat = (n % ((2 ^ 64 : Nat) : Int)).toNat % 2 ^ 1 := by
    rw [BitVec.toNat_and, BitVec.toNat_ofInt, h1, Nat.and_two_pow_sub_one_eq_mod]
  show IntKind.i64.wrap ((BitVec.ofInt 64 n &&& BitVec.ofInt 64 1).toNat : Nat) = n % 2
  rw [key, IntKind.wrap_i64]
  omega

theorem only_below {w : World} {b : Nat} {o : Obj} {w' : World} (hg : (w.alloc o).grownBy w' (some b)) : w.grownBy w' (some b) := only_trans (only_alloc (only_refl w _) o) hg

set_option maxRecDepth 100000 in
set_option maxHeartbeats 400000 in
theorem slit_any (n : Int) (hn : 1 ≤ n) (hn' : n ≤ 26) (B b : Nat) (zs : List Int) (k : Nat) (w : World) (h : SrcAt w B b zs k) :
    Calls Tryz.prog 25 #[.pointer (some ⟨b, 0, none⟩), .int .i64 n] w fun e w' => ∃ (g : Bool) (m k' : Nat), e = .returned (.agg #[.bool g, .string (letter m)]) ∧ (m : Int) < n ∧ SrcAt w' B b zs k' ∧ w.grownBy w' (some b) := by
  have hlt := h.lt
  have hbB : B ≤ w.heap.size := by have := h.base; omega
  have H := hidIt h
  clear h
  go_enter Tryz.func25, Tryz.ntmps25
  go_wp2_with fail
  go_at_call 33
  refine (sn_any _ (by omega) (by omega) B b zs k _ (H.out.alloc _)).mono ?_
  rintro e w' ⟨z, k', rfl, hz, hs, hg⟩
  have hblk := laid_two hg (by simp; omega)
  have hsz : w.heap.size < w'.heap.size := by have := hg.size; simp at this; omega
  have HS := hidIt hs; have HG := hidIt hg; clear hs hg
  obtain ⟨hz0, hz1⟩ := hz
  obtain ⟨m, hm⟩ : ∃ m : Nat, z / 2 = (m : Int) := ⟨(z / 2).toNat, by omega⟩
  have hcv : (convert 48 9 (.slice (some ⟨w'.heap.size, 0, none⟩) 1 1)).run Tryz.prog (w'.alloc (.cells #[.int .u8 (97 + z / 2)] 5)) = .ok (.string (letter m)) (w'.alloc (.cells #[.int .u8 (97 + z / 2)] 5)) := by
    refine run_convert_bytes_back (P := Tryz.prog) _ 48 9 5 ⟨w'.heap.size, 0, none⟩ 1 [UInt8.ofNat (97 + m)] Tryz.underlying48 Tryz.underlying5 Tryz.underlying9 ?_
    intro j hj
    obtain rfl : j = 0 := by simpa using hj
    have : (UInt8.ofNat (97 + m)).toNat = 97 + m := by rw [UInt8.toNat_ofNat']; omega
    have e : (([UInt8.ofNat (97 + m)] : List UInt8)[0].toNat : Int) = 97 + z / 2 := by show ((UInt8.ofNat (97 + m)).toNat : Int) = _; rw [this, hm]; omega
    rw [e]
    exact cell_of_one (heap_alloc_new w' _)
  have c0 := cell_two0 hblk
  have c1 := cell_two1 hblk
  have f0 := free_any hblk 0
  have f1 := free_any hblk 1
  have HM := hidIt hm
  clear hm hblk
  go_wp2
  refine bodyPost_ret (v := .agg #[.bool (bits BinOp.and IntKind.i64 z 1 == 1), .string (letter m)]) (by simp [results, Tryz.results25, go_sem, c0, c1, hsz]) rfl ?_
  refine ⟨_, m, k', rfl, by have := HM.out; omega, ?_, ?_⟩
  · exact ((HS.out.setCell _ _ hbB (Nat.ne_of_gt hlt)).setCell _ _ hbB (Nat.ne_of_gt hlt)).alloc _
  · exact only_alloc (only_setCell (only_setCell (only_below HG.out) (.inr (Nat.le_refl _)) _) (.inr (Nat.le_refl _)) _) _
end Go.Proofs.YtmhloapjadhifaaGreatDoor

namespace Go.Proofs.YtmhloapjadhifaaGreatDoor
set_option linter.unusedVariables false
set_option linter.unusedSimpArgs false
open Go.RowKit

set_option maxHeartbeats 400000 in
theorem valid_any (g : Bool) (s : ByteArray) (w : World) (hs : s.size ≤ maxLen) :
    Calls Tryz.prog 117 #[.agg #[.bool g, .string s]] w fun e w' => e = .returned (.bool (vn s)) ∧ Below w.heap.size w w' := by
  go_enter Tryz.func117, Tryz.ntmps117
  go_wp2_with (go_at_call 120; refine (validName_any s _ hs).mono ?_; rintro e w' ⟨rfl, rfl⟩)
  go_ret
  exact ⟨rfl, (Below.refl _ _).alloc (Nat.le_refl _) _⟩

/-- The text of a literal. -/
def fmtB (g : Bool) (s : ByteArray) : ByteArray := if vn s then (if g then ⟨#[126]⟩ ++ s else s) else ⟨#[]⟩

theorem bcell {W w1 : World} (hb : Below W.heap.size W w1) : (∀ b o, b < W.heap.size → w1.cell? ⟨b, o, none⟩ = W.cell? ⟨b, o, none⟩) ∧ (∀ b o, b < W.heap.size → w1.frozen? ⟨b, o, none⟩ = W.frozen? ⟨b, o, none⟩) :=
  ⟨fun b o h => hb.cell (p := ⟨b, o, none⟩) h, fun b o h => hb.frozen (p := ⟨b, o, none⟩) h⟩

theorem laid_cells {w w1 : World} {u v : Value} {t : TypeId} (hb : Below (w.alloc (.cells #[u, v] t)).heap.size (w.alloc (.cells #[u, v] t)) w1) :
    w1.cell? ⟨w.heap.size, 0, none⟩ = some u ∧ w1.cell? ⟨w.heap.size, 1, none⟩ = some v := by
  have h := laid_two (w := w) (only_of_below hb none) (by simp)
  exact ⟨cell_two0 h, cell_two1 h⟩

theorem below_of_alloc {w w1 : World} {o : Obj} (hb : Below (w.alloc o).heap.size (w.alloc o) w1) : Below w.heap.size w w1 := ((Below.refl _ _).alloc (Nat.le_refl _) o).trans (hb.mono (by simp))

theorem ret_str {a b : ByteArray} (h : a = b) : Ending.returned (.string a) = .returned (.string b) := by rw [h]

set_option maxHeartbeats 400000 in
theorem format_any (g : Bool) (s : ByteArray) (w : World) (hs : s.size ≤ maxLen) :
    Calls Tryz.prog 162 #[.agg #[.bool g, .string s]] w fun e w' => e = .returned (.string (fmtB g s)) ∧ Below w.heap.size w w' := by
  cases hv : vn s
  · have HE : Hid (fmtB g s = ⟨#[]⟩) := by show _ = _; simp [fmtB, hv]
    go_enter Tryz.func162, Tryz.ntmps162
    go_wp2_with (go_at_call 117; refine (valid_any g s _ hs).mono ?_; rintro e w' ⟨rfl, hb⟩; have HB := hidIt hb; obtain ⟨c0, c1⟩ := laid_cells hb; clear hb)
    go_ret
    exact ⟨ret_str HE.out.symm, below_of_alloc HB.out⟩
  cases g
  · have HE : Hid (fmtB false s = s) := by show _ = _; simp [fmtB, hv]
    go_enter Tryz.func162, Tryz.ntmps162
    go_wp2_with (go_at_call 117; refine (valid_any false s _ hs).mono ?_; rintro e w' ⟨rfl, hb⟩; have HB := hidIt hb; obtain ⟨c0, c1⟩ := laid_cells hb; clear hb)
    go_ret
    exact ⟨ret_str HE.out.symm, below_of_alloc HB.out⟩
  · have h12 : s.size ≤ 12 := by
      have := hv
      simp only [vn, Bool.and_eq_true, decide_eq_true_eq] at this
      exact this.1.2
    have HE : Hid (fmtB true s = ⟨#[126]⟩ ++ s) := by show _ = _; simp [fmtB, hv]
    go_enter Tryz.func162, Tryz.ntmps162
    go_wp2_with (go_at_call 117; refine (valid_any true s _ hs).mono ?_; rintro e w' ⟨rfl, hb⟩; have HB := hidIt hb; obtain ⟨c0, c1⟩ := laid_cells hb; clear hb)
    go_ret
    exact ⟨ret_str HE.out.symm, below_of_alloc HB.out⟩
end Go.Proofs.YtmhloapjadhifaaGreatDoor

namespace Go.Proofs.YtmhloapjadhifaaGreatDoor
set_option linter.unusedVariables false
set_option linter.unusedSimpArgs false
open Go.RowKit

/-- Does the text begin with a tilde? -/
def cutB (s : ByteArray) : Bool := (s.extract 0 1).toList == [126]

theorem cutB_eq (s : ByteArray) : cutB s = (s.data.toList.take 1 == [126]) := by
  unfold cutB
  rw [Lib.extract_toList]
  rfl

theorem cutB_empty (s : ByteArray) (h : s.size = 0) : cutB s = false := by
  have : s.data.toList = [] := List.eq_nil_of_length_eq_zero (by rw [← Lib.size_eq]; exact h)
  rw [cutB_eq, this]
  rfl

set_option maxHeartbeats 400000 in
theorem hasPrefix_any (s : ByteArray) (w : World) (hs : s.size ≤ maxLen) :
    Calls Tryz.prog 248 #[.string s, .string ⟨#[126]⟩] w fun e w' => e = .returned (.bool (cutB s)) ∧ w = w' := by
  unfold maxLen at hs
  by_cases hp : 0 < s.size
  · go_enter Tryz.func248, Tryz.ntmps248
    go_wp2
    go_ret
    exact ⟨rfl, rfl⟩
  · have HE := hidIt (cutB_empty s (by omega))
    go_enter Tryz.func248, Tryz.ntmps248
    go_wp2
    go_ret
    exact ⟨ret_bool HE.out.symm, rfl⟩

set_option maxHeartbeats 400000 in
theorem slCut_no (s : ByteArray) (w : World) (hs : s.size ≤ maxLen) (h : cutB s = false) :
    Calls Tryz.prog 238 #[.string s, .string ⟨#[126]⟩] w fun e w' => e = .returned (.tuple #[.string s, .bool false]) ∧ w = w' := by
  go_enter Tryz.func238, Tryz.ntmps238
  go_wp2_with (go_at_call 248; refine (hasPrefix_any s _ hs).mono ?_; rintro e w' ⟨rfl, rfl⟩)
  go_ret2
  exact ⟨rfl, rfl⟩

theorem cutB_pos (s : ByteArray) (h : cutB s = true) : 0 < s.size := by
  by_cases hp : 0 < s.size
  · exact hp
  · rw [cutB_empty s (by omega)] at h; cases h

set_option maxHeartbeats 400000 in
theorem slCut_yes (s : ByteArray) (w : World) (hs : s.size ≤ maxLen) (h : cutB s = true) :
    Calls Tryz.prog 238 #[.string s, .string ⟨#[126]⟩] w fun e w' => e = .returned (.tuple #[.string (s.extract 1 s.size), .bool true]) ∧ w = w' := by
  have hp := cutB_pos s h
  go_enter Tryz.func238, Tryz.ntmps238
  go_wp2_with (go_at_call 248; refine (hasPrefix_any s _ hs).mono ?_; rintro e w' ⟨rfl, rfl⟩)
  go_ret2
  exact ⟨rfl, rfl⟩

set_option maxHeartbeats 400000 in
theorem cut_no (s : ByteArray) (w : World) (hs : s.size ≤ maxLen) (h : cutB s = false) :
    Calls Tryz.prog 221 #[.string s, .string ⟨#[126]⟩] w fun e w' => e = .returned (.tuple #[.string s, .bool false]) ∧ w = w' := by
  go_enter Tryz.func221, Tryz.ntmps221
  go_wp2_with (go_at_call 238; refine (slCut_no s _ hs h).mono ?_; rintro e w' ⟨rfl, rfl⟩)
  go_ret2
  exact ⟨rfl, rfl⟩

set_option maxHeartbeats 400000 in
theorem cut_yes (s : ByteArray) (w : World) (hs : s.size ≤ maxLen) (h : cutB s = true) :
    Calls Tryz.prog 221 #[.string s, .string ⟨#[126]⟩] w fun e w' => e = .returned (.tuple #[.string (s.extract 1 s.size), .bool true]) ∧ w = w' := by
  go_enter Tryz.func221, Tryz.ntmps221
  go_wp2_with (go_at_call 238; refine (slCut_yes s _ hs h).mono ?_; rintro e w' ⟨rfl, rfl⟩)
  go_ret2
  exact ⟨rfl, rfl⟩

/-- What stands behind the tilde, if there is one. -/
def bare (s : ByteArray) : ByteArray := if cutB s then s.extract 1 s.size else s

theorem bare_le (s : ByteArray) : (bare s).size ≤ s.size := by
  unfold bare
  split
  · rw [ByteArray.size_extract]; omega
  · exact Nat.le_refl _

set_option maxHeartbeats 400000 in
theorem parse_bad (s : ByteArray) (w : World) (hs : s.size ≤ maxLen) (h : vn (bare s) = false) :
    Calls Tryz.prog 197 #[.string s] w fun e w' => e = .returned (.tuple #[.agg #[.bool false, .string ⟨#[]⟩], .int .i64 3]) ∧ Below w.heap.size w w' := by
  have hb := bare_le s
  cases hc : cutB s
  · have hbs : bare s = s := by simp [bare, hc]
    rw [hbs] at h
    clear hbs hb
    go_enter Tryz.func197, Tryz.ntmps197
    go_wp2_with (first | (go_at_call 221; refine (cut_no s _ hs hc).mono ?_; rintro e w' ⟨rfl, rfl⟩) | (go_at_call 120; refine (validName_any s _ hs).mono ?_; rintro e w' ⟨rfl, rfl⟩))
    exact bodyPost_ret (v := .tuple #[.agg #[.bool false, .string ⟨#[]⟩], .int .i64 3]) (by simp [results, Tryz.results197, go_sem]) rfl ⟨rfl, by first | exact (Below.refl _ _).alloc (Nat.le_refl _) _ | exact ((Below.refl _ _).alloc (Nat.le_refl _) _).setCell (Nat.le_refl _) _⟩
  · have hbs : bare s = s.extract 1 s.size := by simp [bare, hc]
    rw [hbs] at h hb
    have hs' : (s.extract 1 s.size).size ≤ maxLen := Nat.le_trans hb hs
    clear hbs hb
    go_enter Tryz.func197, Tryz.ntmps197
    go_wp2_with (first | (go_at_call 221; refine (cut_yes s _ hs hc).mono ?_; rintro e w' ⟨rfl, rfl⟩) | (go_at_call 120; refine (validName_any _ _ hs').mono ?_; rintro e w' ⟨rfl, rfl⟩))
    exact bodyPost_ret (v := .tuple #[.agg #[.bool false, .string ⟨#[]⟩], .int .i64 3]) (by simp [results, Tryz.results197, go_sem]) rfl ⟨rfl, (Below.refl _ _).alloc (Nat.le_refl _) _⟩

set_option maxHeartbeats 400000 in
theorem parse_good (s : ByteArray) (w : World) (hs : s.size ≤ maxLen) (h : vn (bare s) = true) :
    Calls Tryz.prog 197 #[.string s] w fun e w' => e = .returned (.tuple #[.agg #[.bool (cutB s), .string (bare s)], .int .i64 0]) ∧ Below w.heap.size w w' := by
  have hb := bare_le s
  cases hc : cutB s
  · have hbs : bare s = s := by simp [bare, hc]
    rw [hbs] at h ⊢
    clear hbs hb
    go_enter Tryz.func197, Tryz.ntmps197
    go_wp2_with (first | (go_at_call 221; refine (cut_no s _ hs hc).mono ?_; rintro e w' ⟨rfl, rfl⟩) | (go_at_call 120; refine (validName_any s _ hs).mono ?_; rintro e w' ⟨rfl, rfl⟩))
    exact bodyPost_ret (v := .tuple #[.agg #[.bool false, .string s], .int .i64 0]) (by simp [results, Tryz.results197, go_sem]) rfl ⟨rfl, (Below.refl _ _).alloc (Nat.le_refl _) _⟩
  · have hbs : bare s = s.extract 1 s.size := by simp [bare, hc]
    rw [hbs] at h hb ⊢
    have hs' : (s.extract 1 s.size).size ≤ maxLen := Nat.le_trans hb hs
    clear hbs hb
    go_enter Tryz.func197, Tryz.ntmps197
    go_wp2_with (first | (go_at_call 221; refine (cut_yes s _ hs hc).mono ?_; rintro e w' ⟨rfl, rfl⟩) | (go_at_call 120; refine (validName_any _ _ hs').mono ?_; rintro e w' ⟨rfl, rfl⟩))
    exact bodyPost_ret (v := .tuple #[.agg #[.bool true, .string (s.extract 1 s.size)], .int .i64 0]) (by simp [results, Tryz.results197, go_sem]) rfl ⟨rfl, (Below.refl _ _).alloc (Nat.le_refl _) _⟩

/-- What is read from a text: the literal and the error's number. -/
def parsedNeg (s : ByteArray) : Bool := vn (bare s) && cutB s
def parsedName (s : ByteArray) : ByteArray := if vn (bare s) then bare s else ⟨#[]⟩
def parsedErr (s : ByteArray) : Int := if vn (bare s) then 0 else 3

theorem parse_any (s : ByteArray) (w : World) (hs : s.size ≤ maxLen) :
    Calls Tryz.prog 197 #[.string s] w fun e w' => e = .returned (.tuple #[.agg #[.bool (parsedNeg s), .string (parsedName s)], .int .i64 (parsedErr s)]) ∧ Below w.heap.size w w' := by
  cases h : vn (bare s)
  · rw [parsedNeg, parsedName, parsedErr, h]
    exact parse_bad s w hs h
  · rw [parsedNeg, parsedName, parsedErr, h]
    exact parse_good s w hs h
end Go.Proofs.YtmhloapjadhifaaGreatDoor

namespace Go.Proofs.YtmhloapjadhifaaGreatDoor
set_option linter.unusedVariables false
set_option linter.unusedSimpArgs false
open Go Go.RowKit

/-- Does the rank fit? -/
def rankB (n : Int) (ranked : Bool) : Bool := if ranked then decide (0 ≤ n) && decide (n ≤ 9) else decide (n = 0)

theorem rankFits_any (n : Int) (g : Bool) (hn : I64 n) (w : World) :
    Calls Tryz.prog 118 #[.int .i64 n, .bool g] w fun e w' => e = .returned (.bool (rankB n g)) ∧ w = w' := by
  unfold I64 at hn
  cases g
  · go_enter Tryz.func118, Tryz.ntmps118
    go_wp2
    all_goals (go_ret; refine ⟨ret_bool ?_, rfl⟩; grind [rankB])
  · go_enter Tryz.func118, Tryz.ntmps118
    go_wp2
    all_goals (go_ret; refine ⟨ret_bool ?_, rfl⟩; grind [rankB])

/-- Does the source fit? -/
def srcB (s : ByteArray) : Bool := decide (s.size = 0) || vn s

theorem sourceFits_any (s : ByteArray) (hs : s.size ≤ maxLen) (w : World) :
    Calls Tryz.prog 119 #[.string s] w fun e w' => e = .returned (.bool (srcB s)) ∧ w = w' := by
  have HS := hidIt hs
  clear hs
  by_cases h0 : s.size = 0
  · have e0 : s = ⟨#[]⟩ := by apply ByteArray.ext; exact Array.eq_empty_of_size_eq_zero h0
    subst e0
    go_enter Tryz.func119, Tryz.ntmps119
    go_wp2
    all_goals (go_ret; refine ⟨ret_bool ?_, rfl⟩; rfl)
  · have hne : s.toList.isEmpty = false := by
      rw [Lib.toList_data]
      cases h : s.data.toList with
      | nil => exact absurd (by show s.data.size = 0; rw [← Array.length_toList, h]; rfl) h0
      | cons a l => rfl
    have hne2 : ¬ s.toList = [] := by
      intro h
      rw [h] at hne
      cases hne
    have HB : Hid (srcB s = vn s) := by show _ = _; unfold srcB; rw [decide_eq_false h0]; rfl
    go_enter Tryz.func119, Tryz.ntmps119
    go_wp2_with (go_at_call 120; refine (validName_any s _ HS.out).mono ?_; rintro e w' ⟨rfl, rfl⟩)
    all_goals (go_ret; exact ⟨ret_bool HB.out.symm, rfl⟩)

theorem notValid_any (g : Bool) (s : ByteArray) (hs : s.size ≤ maxLen) (w : World) :
    Calls Tryz.prog 122 #[.agg #[.bool g, .string s]] w fun e w' => e = .returned (.bool (!vn s)) ∧ Below w.heap.size w w' := by
  have hgr : Below w.heap.size w (w.alloc (.cells #[.bool g, .string s] 28)) := (Below.refl _ _).alloc (Nat.le_refl _) _
  have HG := hidIt hgr
  clear hgr
  go_enter Tryz.func122, Tryz.ntmps122
  go_wp2_with fail
  refine (valid_any g s _ hs).mono ?_
  rintro e w1 ⟨rfl, hb⟩
  have HB := hidIt (HG.out.trans (hb.mono HG.out.size))
  clear hb
  cases h : vn s
  · go_wp2_with fail
    go_ret
    refine ⟨?_, HB.out⟩
    rw [h]; rfl
  · go_wp2_with fail
    go_ret
    refine ⟨?_, HB.out⟩
    rw [h]; rfl

/-- The name of the rule with a number: r and a letter. -/
def ruleNm (m : Nat) : ByteArray := ⟨#[114]⟩ ++ ⟨#[97 + UInt8.ofNat m]⟩

theorem conv_byte (m : Nat) (h : m < 26) (w : World) (z : Int) (hz : z = 97 + (m : Int)) :
    (convert 48 9 (.slice (some ⟨w.heap.size, 0, none⟩) 1 1)).run Tryz.prog (w.alloc (.cells #[.int .u8 z] 5)) = .ok (.string ⟨#[UInt8.ofNat (97 + m)]⟩) (w.alloc (.cells #[.int .u8 z] 5)) := by
  subst hz
  refine run_convert_bytes_back (P := Tryz.prog) _ 48 9 5 ⟨w.heap.size, 0, none⟩ 1 [UInt8.ofNat (97 + m)] Tryz.underlying48 Tryz.underlying5 Tryz.underlying9 ?_
  intro j hj
  obtain rfl : j = 0 := by simpa using hj
  have h1 : (UInt8.ofNat (97 + m)).toNat = 97 + m := by rw [UInt8.toNat_ofNat']; omega
  have e : (([UInt8.ofNat (97 + m)] : List UInt8)[0].toNat : Int) = 97 + (m : Int) := by show ((UInt8.ofNat (97 + m)).toNat : Int) = _; rw [h1]; omega
  rw [e]
  have hK := heap_alloc_new w (.cells #[.int .u8 (97 + (m : Int))] 5)
  generalize (w.alloc (.cells #[.int .u8 (97 + (m : Int))] 5)) = w' at *
  show w'.cell? ((⟨w.heap.size, 0, none⟩ : Addr).add 0) = _
  rw [Addr.add_lit]
  simp [World.cell?, hK]

set_option maxRecDepth 100000 in
theorem ruleName_any (n : Int) (hn : I64 n) (w : World) :
    Calls Tryz.prog 26 #[.int .i64 n] w fun e w' => ∃ m : Nat, e = .returned (.string (ruleNm m)) ∧ (m : Int) = modI n 26 ∧ Below w.heap.size w w' := by
  have hn' := hn
  unfold I64 at hn'
  go_enter Tryz.func26, Tryz.ntmps26
  go_wp2_with fail
  refine (mod_any n 26 (by omega) (by omega) (by omega) (by omega) w).mono ?_
  rintro e w1 ⟨rfl, rfl⟩
  have hmd := modI_bd n 26 (by omega)
  obtain ⟨m, hm⟩ : ∃ m : Nat, modI n 26 = (m : Int) := ⟨(modI n 26).toNat, by omega⟩
  rw [hm] at hmd ⊢
  have hm26 : m < 26 := by omega
  have hm0 : (0 : Int) ≤ (m : Int) := by omega
  have hmI : (m : Int) < 26 := by omega
  have hcv := conv_byte m hm26 w (97 + (m : Int)) rfl
  go_wp2_with fail
  go_ret
  exact ⟨m, rfl, hm.symm, (Below.refl _ _).alloc (Nat.le_refl _) _⟩

theorem find1_any (w : World) (nm rn hd : ByteArray) (st ng : Bool) (rk : Int) (bv : Value) (b : Nat) (hb : w.cell? ⟨b, 0, none⟩ = some (.string nm)) (hl : b < w.heap.size) :
    Calls Tryz.prog 72 #[.agg #[.string rn, .bool st, .int .i64 rk, bv, .bool ng, .string hd], .pointer (some ⟨b, 0, none⟩)] w fun e w' => e = .returned (.bool (rn.toList == nm.toList)) ∧ Below w.heap.size w w' := by
  have hgr : Below w.heap.size w (w.alloc (.cells #[.string rn, .bool st, .int .i64 rk, bv, .bool ng, .string hd] 66)) := (Below.refl _ _).alloc (Nat.le_refl _) _
  have HG := hidIt hgr
  have hb2 := (hgr.cell (p := ⟨b, 0, none⟩) hl).trans hb
  clear hgr
  go_enter Tryz.func72, Tryz.ntmps72
  go_wp2_with fail
  go_ret
  exact ⟨rfl, HG.out⟩

theorem prem1_any (w : World) (ng pg : Bool) (nm pn sr : ByteArray) (kd rk : Int) (b : Nat) (hb : w.cell? ⟨b, 0, none⟩ = some (.bool ng)) (hb1 : w.cell? ⟨b, 1, none⟩ = some (.string nm)) (hl : b < w.heap.size) :
    Calls Tryz.prog 74 #[.agg #[.bool pg, .string pn, .int .i64 kd, .int .i64 rk, .string sr], .pointer (some ⟨b, 0, none⟩)] w fun e w' => e = .returned (.bool ((pg == ng) && (pn.toList == nm.toList))) ∧ Below w.heap.size w w' := by
  have hgr : Below w.heap.size w (w.alloc (.cells #[.bool pg, .string pn, .int .i64 kd, .int .i64 rk, .string sr] 64)) := (Below.refl _ _).alloc (Nat.le_refl _) _
  have HG := hidIt hgr
  have hb2 := (hgr.cell (p := ⟨b, 0, none⟩) hl).trans hb
  have hb3 := (hgr.cell (p := ⟨b, 1, none⟩) hl).trans hb1
  clear hgr
  go_enter Tryz.func74, Tryz.ntmps74
  go_wp2_with fail
  all_goals (go_ret; refine ⟨ret_bool ?_, (Below.refl _ _).alloc (Nat.le_refl _) _⟩; simp_all)

end Go.Proofs.YtmhloapjadhifaaGreatDoor

namespace Go.Proofs.YtmhloapjadhifaaGreatDoor
set_option linter.unusedVariables false
set_option linter.unusedSimpArgs false
open Go Go.RowKit

/-- A premise, a rule, a promotion. -/
structure Pm where
  lit : Lt
  kind : Int
  rank : Int
  src : ByteArray
structure Ru where
  name : ByteArray
  strict : Bool
  rank : Int
  body : List Lt
  head : Lt
structure Pr where
  rule : ByteArray
  rank : Int
  lit : Lt

/-- A list of literals in memory (LitsAt says the same). -/
def BodyAt (w : World) (v : Value) (xs : List Lt) : Prop :=
  (v = .slice none 0 0 ∧ xs = []) ∨
  ∃ (b off cap : Nat), v = .slice (some ⟨b, off, none⟩) xs.length cap ∧ xs.length ≤ cap ∧ cap ≤ maxLen ∧ b < w.heap.size ∧
    ∀ i (h : i < xs.length), w.cell? ⟨b, off + i * 2, none⟩ = some (.bool (xs[i]).neg) ∧ w.cell? ⟨b, off + i * 2 + 1, none⟩ = some (.string (xs[i]).name)

/-- One premise's five cells, one rule's six, one promotion's four. -/
def PmAt (w : World) (b o : Nat) (p : Pm) : Prop :=
  w.cell? ⟨b, o, none⟩ = some (.bool p.lit.neg) ∧ w.cell? ⟨b, o + 1, none⟩ = some (.string p.lit.name) ∧ w.cell? ⟨b, o + 2, none⟩ = some (.int .i64 p.kind) ∧ w.cell? ⟨b, o + 3, none⟩ = some (.int .i64 p.rank) ∧ w.cell? ⟨b, o + 4, none⟩ = some (.string p.src)
def RuAt (w : World) (b o : Nat) (r : Ru) : Prop :=
  ∃ bv : Value, w.cell? ⟨b, o, none⟩ = some (.string r.name) ∧ w.cell? ⟨b, o + 1, none⟩ = some (.bool r.strict) ∧ w.cell? ⟨b, o + 2, none⟩ = some (.int .i64 r.rank) ∧ w.cell? ⟨b, o + 3, none⟩ = some bv ∧
    w.cell? ⟨b, o + 4, none⟩ = some (.bool r.head.neg) ∧ w.cell? ⟨b, o + 5, none⟩ = some (.string r.head.name) ∧ BodyAt w bv r.body
def PrAt (w : World) (b o : Nat) (p : Pr) : Prop :=
  w.cell? ⟨b, o, none⟩ = some (.string p.rule) ∧ w.cell? ⟨b, o + 1, none⟩ = some (.int .i64 p.rank) ∧ w.cell? ⟨b, o + 2, none⟩ = some (.bool p.lit.neg) ∧ w.cell? ⟨b, o + 3, none⟩ = some (.string p.lit.name)

/-- A row of such things, k cells each. -/
def RowIn {α : Type} (k : Nat) (At : World → Nat → Nat → α → Prop) (w : World) (v : Value) (xs : List α) : Prop :=
  (v = .slice none 0 0 ∧ xs = []) ∨
  ∃ (b off cap : Nat), v = .slice (some ⟨b, off, none⟩) xs.length cap ∧ xs.length ≤ cap ∧ cap ≤ maxLen ∧ b < w.heap.size ∧ ∀ i (h : i < xs.length), At w b (off + i * k) xs[i]

def PmsAt : World → Value → List Pm → Prop := RowIn 5 PmAt
def RusAt : World → Value → List Ru → Prop := RowIn 6 RuAt
def PrsAt : World → Value → List Pr → Prop := RowIn 4 PrAt

theorem BodyAt.below {w w' : World} {v : Value} {xs : List Lt} (h : BodyAt w v xs) (hb : Below w.heap.size w w') : BodyAt w' v xs := by
  rcases h with h | ⟨b, off, cap, h1, h2, h3, h4, h5⟩
  · exact .inl h
  · exact .inr ⟨b, off, cap, h1, h2, h3, Nat.lt_of_lt_of_le h4 hb.size, fun i hi => ⟨(hb.cell (p := ⟨b, off + i * 2, none⟩) h4).trans (h5 i hi).1, (hb.cell (p := ⟨b, off + i * 2 + 1, none⟩) h4).trans (h5 i hi).2⟩⟩
theorem PmAt.below {w w' : World} {b o : Nat} {p : Pm} (h : PmAt w b o p) (hb : Below w.heap.size w w') (hl : b < w.heap.size) : PmAt w' b o p :=
  ⟨(hb.cell (p := ⟨b, _, none⟩) hl).trans h.1, (hb.cell (p := ⟨b, _, none⟩) hl).trans h.2.1, (hb.cell (p := ⟨b, _, none⟩) hl).trans h.2.2.1, (hb.cell (p := ⟨b, _, none⟩) hl).trans h.2.2.2.1, (hb.cell (p := ⟨b, _, none⟩) hl).trans h.2.2.2.2⟩
theorem PrAt.below {w w' : World} {b o : Nat} {p : Pr} (h : PrAt w b o p) (hb : Below w.heap.size w w') (hl : b < w.heap.size) : PrAt w' b o p :=
  ⟨(hb.cell (p := ⟨b, _, none⟩) hl).trans h.1, (hb.cell (p := ⟨b, _, none⟩) hl).trans h.2.1, (hb.cell (p := ⟨b, _, none⟩) hl).trans h.2.2.1, (hb.cell (p := ⟨b, _, none⟩) hl).trans h.2.2.2⟩
theorem RuAt.below {w w' : World} {b o : Nat} {r : Ru} (h : RuAt w b o r) (hb : Below w.heap.size w w') (hl : b < w.heap.size) : RuAt w' b o r := by
  obtain ⟨bv, h0, h1, h2, h3, h4, h5, h6⟩ := h
  exact ⟨bv, (hb.cell (p := ⟨b, _, none⟩) hl).trans h0, (hb.cell (p := ⟨b, _, none⟩) hl).trans h1, (hb.cell (p := ⟨b, _, none⟩) hl).trans h2, (hb.cell (p := ⟨b, _, none⟩) hl).trans h3, (hb.cell (p := ⟨b, _, none⟩) hl).trans h4, (hb.cell (p := ⟨b, _, none⟩) hl).trans h5, h6.below hb⟩
theorem RowIn.below {α : Type} {k : Nat} {At : World → Nat → Nat → α → Prop} (hA : ∀ w w' b o x, At w b o x → Below w.heap.size w w' → b < w.heap.size → At w' b o x) {w w' : World} {v : Value} {xs : List α} (h : RowIn k At w v xs) (hb : Below w.heap.size w w') : RowIn k At w' v xs := by
  rcases h with h | ⟨b, off, cap, h1, h2, h3, h4, h5⟩
  · exact .inl h
  · exact .inr ⟨b, off, cap, h1, h2, h3, Nat.lt_of_lt_of_le h4 hb.size, fun i hi => hA _ _ _ _ _ (h5 i hi) hb h4⟩
theorem RusAt.below {w w' : World} {v : Value} {xs : List Ru} (h : RusAt w v xs) (hb : Below w.heap.size w w') : RusAt w' v xs := RowIn.below (fun _ _ _ _ _ h hb hl => h.below hb hl) h hb
theorem PmsAt.below {w w' : World} {v : Value} {xs : List Pm} (h : PmsAt w v xs) (hb : Below w.heap.size w w') : PmsAt w' v xs := RowIn.below (fun _ _ _ _ _ h hb hl => h.below hb hl) h hb
theorem PrsAt.below {w w' : World} {v : Value} {xs : List Pr} (h : PrsAt w v xs) (hb : Below w.heap.size w w') : PrsAt w' v xs := RowIn.below (fun _ _ _ _ _ h hb hl => h.below hb hl) h hb

/-- The row's header as a walk wants it: one address, whether or not there is one. -/
theorem RowIn.form {α : Type} {k : Nat} {At : World → Nat → Nat → α → Prop} {w : World} {v : Value} {xs : List α} (h : RowIn k At w v xs) :
    ∃ (a : Option Addr) (cap : Nat), v = .slice a xs.length cap ∧ xs.length ≤ cap ∧ cap ≤ maxLen ∧ ∀ i (h : i < xs.length), ∃ b off : Nat, a = some ⟨b, off, none⟩ ∧ b < w.heap.size ∧ At w b (off + i * k) xs[i] := by
  rcases h with ⟨h1, h2⟩ | ⟨b, off, cap, h1, h2, h3, h4, h5⟩
  · subst h2
    exact ⟨none, 0, h1, by simp, by unfold maxLen; omega, fun i hi => absurd hi (by simp)⟩
  · exact ⟨_, cap, h1, h2, h3, fun i hi => ⟨b, off, rfl, h4, h5 i hi⟩⟩

/-- The first place at which p holds, or -1. -/
def posI {α : Type} (p : α → Bool) (xs : List α) : Int := if xs.findIdx p < xs.length then (xs.findIdx p : Int) else -1
theorem posI_at {α : Type} {p : α → Bool} {xs : List α} {k : Nat} (hk : k < xs.length) (hp : p xs[k] = true) (hn : ∀ j (hj : j < k), p (xs[j]'(by omega)) = false) : posI p xs = (k : Int) := by
  have e : xs.findIdx p = k := by
    rw [List.findIdx_eq hk]
    exact ⟨hp, fun j hj => by rw [hn j hj]⟩
  unfold posI
  rw [e, if_pos hk]
theorem posI_no {α : Type} {p : α → Bool} {xs : List α} (hn : ∀ j (hj : j < xs.length), p xs[j] = false) : posI p xs = -1 := by
  have e : xs.findIdx p = xs.length := by
    rw [List.findIdx_eq_length]
    intro x hx
    obtain ⟨j, hj, rfl⟩ := List.getElem_of_mem hx
    rw [hn j hj]
  unfold posI
  rw [e, if_neg (Nat.lt_irrefl _)]

/-- Has the rule this name? -/
def hasName (nm : ByteArray) (r : Ru) : Bool := r.name.toList == nm.toList

set_option maxHeartbeats 1000000 in
theorem idxRule_any (rs : List Ru) (v : Value) (nm : ByteArray) (m : Nat) (w : World) (hv : RusAt w v rs) (hc : w.cell? ⟨m, 0, none⟩ = some (.string nm)) (hm : m < w.heap.size) :
    Calls Tryz.prog 71 #[v, .func (Fn.func 72) #[] #[.pointer (some ⟨m, 0, none⟩)]] w fun e w' => e = .returned (.int .i64 (posI (hasName nm) rs)) ∧ Below w.heap.size w w' := by
  obtain ⟨a, cap, rfl, hlen, hcap, hrow⟩ := hv.form
  have HR := hidIt hrow
  have HC := hidIt hc
  have HM := hidIt hm
  have hl1 : rs.length ≤ 9223372036854775807 := by unfold maxLen at hcap; omega
  clear hrow hv hc hm
  go_enter Tryz.func71, Tryz.ntmps71
  go_wp2_with fail
  go_loopw [5, 8] (fun _ i wr => ∃ k : Nat, k ≤ rs.length ∧ i = .int .i64 k ∧ Hid (Below w.heap.size w wr) ∧ Hid (∀ j (hj : j < rs.length), j < k → hasName nm rs[j] = false)) (fun _ i _ => rs.length - (intOf i).toNat)
  case atStart => exact ⟨0, Nat.zero_le _, rfl, Below.refl _ _, fun j hj h => absurd h (by omega)⟩
  case round =>
    obtain ⟨k, hk, rfl, HB, HF⟩ := hrel
    by_cases hlt : k < rs.length
    · have hkr := hlt
      obtain ⟨b, off, rfl, hbl, bv, c0, c1, c2, c3, c4, c5, -⟩ := HR.out k hkr
      have hltI : (k : Int) < (rs.length : Int) := by omega
      have hk0 : (0 : Int) ≤ (k : Int) := by omega
      have d0 := (HB.out.cell (p := ⟨b, off + k * 6, none⟩) hbl).trans c0
      have d1 := (HB.out.cell (p := ⟨b, off + k * 6 + 1, none⟩) hbl).trans c1
      have d2 := (HB.out.cell (p := ⟨b, off + k * 6 + 2, none⟩) hbl).trans c2
      have d3 := (HB.out.cell (p := ⟨b, off + k * 6 + 3, none⟩) hbl).trans c3
      have d4 := (HB.out.cell (p := ⟨b, off + k * 6 + 4, none⟩) hbl).trans c4
      have d5 := (HB.out.cell (p := ⟨b, off + k * 6 + 5, none⟩) hbl).trans c5
      have hbl2 := Nat.lt_of_lt_of_le hbl HB.out.size
      clear c0 c1 c2 c3 c4 c5
      go_wp2_with fail
      refine (find1_any wr nm rs[k].name rs[k].head.name rs[k].strict rs[k].head.neg rs[k].rank bv m ((HB.out.cell (p := ⟨m, 0, none⟩) HM.out).trans HC.out) (Nat.lt_of_lt_of_le HM.out HB.out.size)).mono ?_
      rintro e w1 ⟨rfl, hb1⟩
      have HB1 := hidIt (HB.out.trans (hb1.mono HB.out.size))
      clear hb1 d0 d1 d2 d3 d4 d5
      cases hp : (rs[k].name.toList == nm.toList)
      · go_wp2_with fail
        go_roundw
        case rel =>
          refine ⟨k + 1, by omega, by go_num, HB1, fun j hj hjk => ?_⟩
          by_cases hjj : j < k
          · exact HF.out j hj hjj
          · obtain rfl : j = k := by omega
            exact hp
        case measure => simp [intOf]; omega
      · go_wp2_with fail
        go_ret
        refine ⟨?_, HB1.out⟩
        rw [posI_at (p := hasName nm) hkr hp (fun j hj => HF.out j (by omega) hj)]
        rfl
    · obtain rfl : k = rs.length := by omega
      go_wp2_with fail
      go_ret
      refine ⟨?_, HB.out⟩
      rw [posI_no (p := hasName nm) (fun j hj => HF.out j hj hj)]
      rfl

/-- Is it this literal's premise? -/
def hasLit (x : Lt) (p : Pm) : Bool := (p.lit.neg == x.neg) && (p.lit.name.toList == x.name.toList)

set_option maxHeartbeats 1000000 in
theorem idxPrem_any (rs : List Pm) (v : Value) (x : Lt) (m : Nat) (w : World) (hv : PmsAt w v rs) (hc : w.cell? ⟨m, 0, none⟩ = some (.bool x.neg)) (hc1 : w.cell? ⟨m, 1, none⟩ = some (.string x.name)) (hm : m < w.heap.size) :
    Calls Tryz.prog 73 #[v, .func (Fn.func 74) #[] #[.pointer (some ⟨m, 0, none⟩)]] w fun e w' => e = .returned (.int .i64 (posI (hasLit x) rs)) ∧ Below w.heap.size w w' := by
  obtain ⟨a, cap, rfl, hlen, hcap, hrow⟩ := hv.form
  have HR := hidIt hrow
  have HC := hidIt hc
  have HC1 := hidIt hc1
  have HM := hidIt hm
  have hl1 : rs.length ≤ 9223372036854775807 := by unfold maxLen at hcap; omega
  clear hrow hv hc hc1 hm
  go_enter Tryz.func73, Tryz.ntmps73
  go_wp2_with fail
  go_loopw [5, 8] (fun _ i wr => ∃ k : Nat, k ≤ rs.length ∧ i = .int .i64 k ∧ Hid (Below w.heap.size w wr) ∧ Hid (∀ j (hj : j < rs.length), j < k → hasLit x rs[j] = false)) (fun _ i _ => rs.length - (intOf i).toNat)
  case atStart => exact ⟨0, Nat.zero_le _, rfl, Below.refl _ _, fun j hj h => absurd h (by omega)⟩
  case round =>
    obtain ⟨k, hk, rfl, HB, HF⟩ := hrel
    by_cases hlt : k < rs.length
    · have hkr := hlt
      obtain ⟨b, off, rfl, hbl, c0, c1, c2, c3, c4⟩ := HR.out k hkr
      have hltI : (k : Int) < (rs.length : Int) := by omega
      have hk0 : (0 : Int) ≤ (k : Int) := by omega
      have d0 := (HB.out.cell (p := ⟨b, off + k * 5, none⟩) hbl).trans c0
      have d1 := (HB.out.cell (p := ⟨b, off + k * 5 + 1, none⟩) hbl).trans c1
      have d2 := (HB.out.cell (p := ⟨b, off + k * 5 + 2, none⟩) hbl).trans c2
      have d3 := (HB.out.cell (p := ⟨b, off + k * 5 + 3, none⟩) hbl).trans c3
      have d4 := (HB.out.cell (p := ⟨b, off + k * 5 + 4, none⟩) hbl).trans c4
      have hbl2 := Nat.lt_of_lt_of_le hbl HB.out.size
      clear c0 c1 c2 c3 c4
      go_wp2_with fail
      refine (prem1_any wr x.neg rs[k].lit.neg x.name rs[k].lit.name rs[k].src rs[k].kind rs[k].rank m ((HB.out.cell (p := ⟨m, 0, none⟩) HM.out).trans HC.out) ((HB.out.cell (p := ⟨m, 1, none⟩) HM.out).trans HC1.out) (Nat.lt_of_lt_of_le HM.out HB.out.size)).mono ?_
      rintro e w1 ⟨rfl, hb1⟩
      have HB1 := hidIt (HB.out.trans (hb1.mono HB.out.size))
      clear hb1 d0 d1 d2 d3 d4
      cases hp : ((rs[k].lit.neg == x.neg) && (rs[k].lit.name.toList == x.name.toList))
      · go_wp2_with fail
        go_roundw
        case rel =>
          refine ⟨k + 1, by omega, by go_num, HB1, fun j hj hjk => ?_⟩
          by_cases hjj : j < k
          · exact HF.out j hj hjj
          · obtain rfl : j = k := by omega
            exact hp
        case measure => simp [intOf]; omega
      · go_wp2_with fail
        go_ret
        refine ⟨?_, HB1.out⟩
        rw [posI_at (p := hasLit x) hkr hp (fun j hj => HF.out j (by omega) hj)]
        rfl
    · obtain rfl : k = rs.length := by omega
      go_wp2_with fail
      go_ret
      refine ⟨?_, HB.out⟩
      rw [posI_no (p := hasLit x) (fun j hj => HF.out j hj hj)]
      rfl

end Go.Proofs.YtmhloapjadhifaaGreatDoor

namespace Go.Proofs.YtmhloapjadhifaaGreatDoor
set_option linter.unusedVariables false
set_option linter.unusedSimpArgs false
open Go Go.RowKit

/-- A rule base. -/
structure Bs where
  prems : List Pm
  rules : List Ru
  proms : List Pr

def BaseAt (w : World) (v : Value) (b : Bs) : Prop := ∃ pv rv qv : Value, v = .agg #[pv, rv, qv] ∧ PmsAt w pv b.prems ∧ RusAt w rv b.rules ∧ PrsAt w qv b.proms
theorem BaseAt.below {w w' : World} {v : Value} {b : Bs} (h : BaseAt w v b) (hb : Below w.heap.size w w') : BaseAt w' v b := by
  obtain ⟨pv, rv, qv, h1, h2, h3, h4⟩ := h
  exact ⟨pv, rv, qv, h1, h2.below hb, h3.below hb, h4.below hb⟩
theorem BaseAt.form {w : World} {v : Value} {b : Bs} (h : BaseAt w v b) : ∃ (a1 a2 a3 : Option Addr) (c1 c2 c3 : Nat), v = .agg #[.slice a1 b.prems.length c1, .slice a2 b.rules.length c2, .slice a3 b.proms.length c3] ∧
    b.prems.length ≤ c1 ∧ c1 ≤ maxLen ∧ b.rules.length ≤ c2 ∧ c2 ≤ maxLen ∧ b.proms.length ≤ c3 ∧ c3 ≤ maxLen ∧
    PmsAt w (.slice a1 b.prems.length c1) b.prems ∧ RusAt w (.slice a2 b.rules.length c2) b.rules ∧ PrsAt w (.slice a3 b.proms.length c3) b.proms := by
  obtain ⟨pv, rv, qv, h1, h2, h3, h4⟩ := h
  obtain ⟨a1, c1, rfl, l1, m1, -⟩ := RowIn.form h2
  obtain ⟨a2, c2, rfl, l2, m2, -⟩ := RowIn.form h3
  obtain ⟨a3, c3, rfl, l3, m3, -⟩ := RowIn.form h4
  exact ⟨a1, a2, a3, c1, c2, c3, h1, l1, m1, l2, m2, l3, m3, h2, h3, h4⟩

theorem bgrow (w : World) (o : Obj) : Below w.heap.size w (w.alloc o) := (Below.refl _ _).alloc (Nat.le_refl _) o
theorem bgrow2 (w : World) (o o' : Obj) : Below w.heap.size w ((w.alloc o).alloc o') := (bgrow w o).trans ((bgrow _ o').mono (bgrow w o).size)
theorem cell_new0 (w : World) (u : Value) (cs : List Value) (t : TypeId) : (w.alloc (.cells (u :: cs).toArray t)).cell? ⟨w.heap.size, 0, none⟩ = some u := by
  have hK := heap_alloc_new w (.cells (u :: cs).toArray t)
  generalize (w.alloc (.cells (u :: cs).toArray t)) = w' at *
  simp [World.cell?, hK]
theorem cell_new1 (w : World) (u u' : Value) (cs : List Value) (t : TypeId) : (w.alloc (.cells (u :: u' :: cs).toArray t)).cell? ⟨w.heap.size, 1, none⟩ = some u' := by
  have hK := heap_alloc_new w (.cells (u :: u' :: cs).toArray t)
  generalize (w.alloc (.cells (u :: u' :: cs).toArray t)) = w' at *
  simp [World.cell?, hK]
theorem size_alloc (w : World) (o : Obj) : (w.alloc o).heap.size = w.heap.size + 1 := by simp

theorem bcell3 {w : World} {b : Nat} {u v x : Value} {t : TypeId} (h : w.heap[b]? = some (.cells #[u, v, x] t (0, 0))) : w.cell? ⟨b, 0, none⟩ = some u ∧ w.cell? ⟨b, 1, none⟩ = some v ∧ w.cell? ⟨b, 2, none⟩ = some x :=
  ⟨by simp [World.cell?, h], by simp [World.cell?, h], by simp [World.cell?, h]⟩

theorem blk_kept2 {w w' : World} {b : Nat} {o : Obj} (h : w.heap[b]? = some o) (hb : Below w.heap.size w w') : w'.heap[b]? = some o := (hb.block b (lt_of_block h)).trans h

theorem bfind_any (b : Bs) (v : Value) (nm : ByteArray) (w : World) (hv : BaseAt w v b) :
    Calls Tryz.prog 21 #[v, .string nm] w fun e w' => e = .returned (.int .i64 (posI (hasName nm) b.rules)) ∧ Below w.heap.size w w' := by
  obtain ⟨a1, a2, a3, c1, c2, c3, rfl, -, -, -, -, -, -, -, hr, -⟩ := hv.form
  have HR := hidIt (hr.below (bgrow2 w (.cells #[.slice a1 b.prems.length c1, .slice a2 b.rules.length c2, .slice a3 b.proms.length c3] 26) (.cells #[.string nm] 9)))
  have HG := hidIt (bgrow2 w (.cells #[.slice a1 b.prems.length c1, .slice a2 b.rules.length c2, .slice a3 b.proms.length c3] 26) (.cells #[.string nm] 9))
  have HC := hidIt (cell_new0 (w.alloc (.cells #[.slice a1 b.prems.length c1, .slice a2 b.rules.length c2, .slice a3 b.proms.length c3] 26)) (.string nm) [] 9)
  rw [size_alloc] at HC
  clear hv hr
  go_enter Tryz.func21, Tryz.ntmps21
  go_wp2_with fail
  refine (idxRule_any b.rules _ nm (w.heap.size + 1) _ HR.out HC.out (by simp)).mono ?_
  rintro e w1 ⟨rfl, hb⟩
  have HB := hidIt (HG.out.trans (hb.mono HG.out.size))
  clear hb
  go_wp2_with fail
  go_ret
  exact ⟨rfl, HB.out⟩

theorem bpremise_any (b : Bs) (v : Value) (x : Lt) (w : World) (hv : BaseAt w v b) :
    Calls Tryz.prog 23 #[v, .agg #[.bool x.neg, .string x.name]] w fun e w' => e = .returned (.int .i64 (posI (hasLit x) b.prems)) ∧ Below w.heap.size w w' := by
  obtain ⟨a1, a2, a3, c1, c2, c3, rfl, -, -, -, -, -, -, hr, -, -⟩ := hv.form
  have HR := hidIt (hr.below (bgrow2 w (.cells #[.slice a1 b.prems.length c1, .slice a2 b.rules.length c2, .slice a3 b.proms.length c3] 26) (.cells #[.bool x.neg, .string x.name] 28)))
  have HG := hidIt (bgrow2 w (.cells #[.slice a1 b.prems.length c1, .slice a2 b.rules.length c2, .slice a3 b.proms.length c3] 26) (.cells #[.bool x.neg, .string x.name] 28))
  have HC := hidIt (cell_new0 (w.alloc (.cells #[.slice a1 b.prems.length c1, .slice a2 b.rules.length c2, .slice a3 b.proms.length c3] 26)) (.bool x.neg) [.string x.name] 28)
  have HC1 := hidIt (cell_new1 (w.alloc (.cells #[.slice a1 b.prems.length c1, .slice a2 b.rules.length c2, .slice a3 b.proms.length c3] 26)) (.bool x.neg) (.string x.name) [] 28)
  rw [size_alloc] at HC HC1
  clear hv hr
  go_enter Tryz.func23, Tryz.ntmps23
  go_wp2_with fail
  refine (idxPrem_any b.prems _ x (w.heap.size + 1) _ HR.out HC.out HC1.out (by simp)).mono ?_
  rintro e w1 ⟨rfl, hb⟩
  have HB := hidIt (HG.out.trans (hb.mono HG.out.size))
  clear hb
  go_wp2_with fail
  go_ret
  exact ⟨rfl, HB.out⟩

theorem r5find_any (b : Bs) (v : Value) (nm : ByteArray) (w : World) (hv : BaseAt w v b) :
    Calls Tryz.prog 22 #[v, .string nm] w fun e w' => e = .returned (.int .i64 (posI (hasName nm) b.rules)) ∧ Below w.heap.size w w' := by
  obtain ⟨a1, a2, a3, c1, c2, c3, rfl, -, -, hlen, hcap, -, -, -, hr, -⟩ := hv.form
  have hgr := bgrow w (.cells #[.slice a1 b.prems.length c1, .slice a2 b.rules.length c2, .slice a3 b.proms.length c3] 26)
  have HR := hidIt (hr.below hgr)
  have HG := hidIt hgr
  have HK := hidIt (heap_alloc_new w (.cells #[.slice a1 b.prems.length c1, .slice a2 b.rules.length c2, .slice a3 b.proms.length c3] 26))
  have hl1 : b.rules.length ≤ 9223372036854775807 := by unfold maxLen at hcap; omega
  clear hv hr hgr
  go_enter Tryz.func22, Tryz.ntmps22
  go_wp2_with fail
  have hpb := lt_of_block HK.out
  obtain ⟨k0, k1, k2⟩ := bcell3 HK.out
  have HK1 := hidIt k1
  have HPB := hidIt hpb
  clear k0 k1 k2 hpb
  generalize (w.alloc (.cells #[.slice a1 b.prems.length c1, .slice a2 b.rules.length c2, .slice a3 b.proms.length c3] 26)) = w1 at *
  have HROW := hidIt (RowIn.form HR.out)
  go_loopw [5] (fun i wr => ∃ k : Nat, k ≤ b.rules.length ∧ i = .int .i64 k ∧ wr = w1 ∧ Hid (∀ j (hj : j < b.rules.length), j < k → hasName nm b.rules[j] = false)) (fun i _ => b.rules.length - (intOf i).toNat)
  case atStart => exact ⟨0, Nat.zero_le _, rfl, rfl, fun j hj h => absurd h (by omega)⟩
  case round =>
    obtain ⟨k, hk, rfl, rfl, HF⟩ := hrel
    have k1 := HK1.out
    have hpb := HPB.out
    by_cases hlt : k < b.rules.length
    · have hkr := hlt
      obtain ⟨a2', c2', e2, -, -, hrow⟩ := HROW.out
      injection e2 with e2 e3 e4
      subst e2 e4
      obtain ⟨bb, off, rfl, hbl, bv, d0, d1, d2, d3, d4, d5, -⟩ := hrow k hkr
      have hltI : (k : Int) < (b.rules.length : Int) := by omega
      have hk0 : (0 : Int) ≤ (k : Int) := by omega
      clear hrow
      have HP : Hid (∀ P : Bool, (b.rules[k].name.toList == nm.toList) = P → hasName nm b.rules[k] = P) := fun P h => h
      cases hp : (b.rules[k].name.toList == nm.toList)
      · go_wp2_with fail
        go_roundw
        case rel =>
          refine ⟨k + 1, by omega, by go_num, by first | rfl | trivial, fun j hj hjk => ?_⟩
          by_cases hjj : j < k
          · exact HF.out j hj hjj
          · obtain rfl : j = k := by omega
            exact hp
        case measure => simp [intOf]; omega
      · go_wp2_with fail
        go_ret
        refine ⟨?_, HG.out⟩
        rw [posI_at (p := hasName nm) hkr hp (fun j hj => HF.out j (by omega) hj)]
        rfl
    · obtain rfl : k = b.rules.length := by omega
      go_wp2_with fail
      go_ret
      refine ⟨?_, HG.out⟩
      rw [posI_no (p := hasName nm) (fun j hj => HF.out j hj hj)]
      rfl

end Go.Proofs.YtmhloapjadhifaaGreatDoor

namespace Go.Proofs.YtmhloapjadhifaaGreatDoor
set_option linter.unusedVariables false
set_option linter.unusedSimpArgs false
open Go Go.RowKit

/-- The reader: the words ahead, and whether it has failed. -/
structure Rd where
  ws : List ByteArray
  bad : Bool
/-- The word ahead, or the empty one. -/
def hdW (ws : List ByteArray) : ByteArray := ws.headD ⟨#[]⟩
def trimT (s p : ByteArray) : ByteArray := ⟨(Lib.trimSuffix s.data.toList p.data.toList).toArray⟩
def litW (x : ByteArray) : Lt := ⟨parsedNeg x, parsedName x⟩
/-- Is the word read as a literal? -/
def litOk (x : ByteArray) : Bool := vn (bare x)
def atoiV (s : ByteArray) : Int := match Lib.atoiAll s.data.toList with
  | .ok v => v
  | .range => Lib.atoiSat s.data.toList
  | _ => 0
def atoiOk (s : ByteArray) : Bool := match Lib.atoiAll s.data.toList with
  | .ok _ => true
  | _ => false
def rdWord (r : Rd) : Rd := ⟨r.ws.tail, r.bad⟩
def rdName (r : Rd) (sg : ByteArray) : ByteArray × Rd := (trimT (hdW r.ws) sg, ⟨r.ws.tail, r.bad || !vn (trimT (hdW r.ws) sg)⟩)
def rdLit (r : Rd) (sg : ByteArray) : Lt × Rd := (litW (trimT (hdW r.ws) sg), ⟨r.ws.tail, r.bad || !litOk (trimT (hdW r.ws) sg)⟩)
def rdRank (r : Rd) (sg : ByteArray) : Int × Rd := (atoiV (trimT (hdW r.ws) sg), ⟨r.ws.tail, r.bad || !(atoiOk (trimT (hdW r.ws) sg) && rankB (atoiV (trimT (hdW r.ws) sg)) true)⟩)
def colT : ByteArray := ⟨#[58]⟩
def comT : ByteArray := ⟨#[44]⟩
def nilT : ByteArray := ⟨#[]⟩

/-- A premise: its kind is read already. -/
def rdPrem1 (k : Int) (r : Rd) : Lt × Rd := rdLit ⟨r.ws, r.bad || !(k != 0)⟩ nilT
def rdPrem2 (k : Int) (r : Rd) : Int × Rd := if k = 2 then rdRank (rdPrem1 k r).2 nilT else (0, (rdPrem1 k r).2)
def rdPrem3 (k : Int) (r : Rd) : ByteArray × Rd := if (rdPrem2 k r).2.ws.length = 0 then (nilT, (rdPrem2 k r).2) else rdName (rdWord (rdPrem2 k r).2) nilT
def rdPrem (k : Int) (r : Rd) : Pm × Rd := (⟨(rdPrem1 k r).1, k, (rdPrem2 k r).1, (rdPrem3 k r).1⟩, (rdPrem3 k r).2)

/-- The first n words as the literals of a body. -/
def rdBody (n : Nat) (r : Rd) : List Lt × Rd := ((r.ws.take n).map (fun x => litW (trimT x comT)), ⟨r.ws.drop n, r.bad || (r.ws.take n).any (fun x => !litOk (trimT x comT))⟩)
def rdRule1 (st : Bool) (r : Rd) : Int × Rd := if st then (0, (rdName r colT).2) else rdRank (rdName r colT).2 colT
def rdRule2 (st : Bool) (r : Rd) : List Lt × Rd := rdBody ((rdRule1 st r).2.ws.length - 2) (rdRule1 st r).2
def rdRule (st : Bool) (r : Rd) : Ru × Rd := (⟨(rdName r colT).1, st, (rdRule1 st r).1, (rdRule2 st r).1, (rdLit (rdWord (rdRule2 st r).2) nilT).1⟩, (rdLit (rdWord (rdRule2 st r).2) nilT).2)

def rdProm1 (r : Rd) : Int × Rd := rdRank (rdName r nilT).2 nilT
def rdProm (r : Rd) : Pr × Rd := (⟨(rdName r nilT).1, (rdProm1 r).1, (rdLit (rdWord (rdProm1 r).2) nilT).1⟩, (rdLit (rdWord (rdProm1 r).2) nilT).2)

/-- The kind that a word stands for. -/
def kindT (s : ByteArray) : Int := if ([97, 120, 105, 111, 109] == s.toList) = true then 1 else if ([112, 114, 101, 109, 105, 115, 101] == s.toList) = true then 2 else if ([97, 115, 115, 117, 109, 101] == s.toList) = true then 3 else 0
def wordsOf (s : ByteArray) : List ByteArray := (Lib.fieldsD s.data.toList).map fun x => ⟨x.toArray⟩
def isStrict (s : ByteArray) : Bool := s.toList == [115, 116, 114, 105, 99, 116]
def isRule (s : ByteArray) : Bool := s.toList == [114, 117, 108, 101]
def isPromote (s : ByteArray) : Bool := s.toList == [112, 114, 111, 109, 111, 116, 101]
def sameB (a b : ByteArray) : Bool := a.toList == b.toList

end Go.Proofs.YtmhloapjadhifaaGreatDoor

namespace Go.Proofs.YtmhloapjadhifaaGreatDoor
set_option linter.unusedVariables false
set_option linter.unusedSimpArgs false
open Go Go.RowKit

/-- Block R holds a reader; it and its words lie below block L. -/
def RdAt (w : World) (L R : Nat) (r : Rd) : Prop :=
  L ≤ w.heap.size ∧ R < L ∧ ∃ (a : Option Addr) (cap : Nat), w.heap[R]? = some (.cells #[.slice a r.ws.length cap, .bool r.bad] 150 (0, 0)) ∧ r.ws.length ≤ cap ∧ cap ≤ maxLen ∧
    ∀ i (h : i < r.ws.length), ∃ b off : Nat, a = some ⟨b, off, none⟩ ∧ b < L ∧ b ≠ R ∧ w.cell? ⟨b, off + i, none⟩ = some (.string r.ws[i])

section
variable {w w' : World} {L R : Nat} {r : Rd}
theorem RdAt.lt (h : RdAt w L R r) : R < w.heap.size := Nat.lt_of_lt_of_le h.2.1 h.1
/-- It is kept while nothing below L turns. -/
theorem RdAt.kept {row : Option Nat} (h : RdAt w L R r) (hg : w.grownBy w' row) (hr : ∀ g, row = some g → L ≤ g) : RdAt w' L R r := by
  obtain ⟨h0, h1, a, cap, hk, h2, h3, h4⟩ := h
  refine ⟨Nat.le_trans h0 hg.size, h1, a, cap, by rw [hg.block R (lt_of_block hk) (fun e => by have := hr R e.symm; omega)]; exact hk, h2, h3, fun i hi => ?_⟩
  obtain ⟨b, off, rfl, h5, h6, h7⟩ := h4 i hi
  exact ⟨b, off, rfl, h5, h6, hg.cell h7 (fun e => by have := hr b e.symm; omega)⟩
theorem RdAt.go (h : RdAt w L R r) (hb : Below w.heap.size w w') : RdAt w' L R r := h.kept (only_of_below hb none) (fun g e => by cases e)
theorem RdAt.alloc (h : RdAt w L R r) (o : Obj) : RdAt (w.alloc o) L R r := h.go (bgrow w o)
theorem RdAt.setCell (h : RdAt w L R r) {p : Addr} (hp : L ≤ p.block) (u : Value) : RdAt (w.setCell p u) L R r :=
  h.kept (only_setCell (only_refl w (some p.block)) (.inl rfl) u) (fun g e => by injection e with e; subst e; exact hp)
end

theorem two_setCell0 {w : World} {b : Nat} {u v x : Value} {t : TypeId} (h : w.heap[b]? = some (.cells #[u, v] t (0, 0))) : (w.setCell ⟨b, 0, none⟩ x).heap[b]? = some (.cells #[x, v] t (0, 0)) := by
  have hlt := lt_of_block h
  have h' : w.heap[b] = .cells #[u, v] t (0, 0) := by simpa [Array.getElem?_eq_getElem hlt] using h
  show (w.heap.modify b _)[b]? = _
  rw [Array.getElem?_eq_getElem (by simpa using hlt), Array.getElem_modify_self, h']
  rfl
theorem cell_off {w : World} {p q : Addr} {u : Value} (h : q.block ≠ p.block) : (w.setCell p u).cell? q = w.cell? q := by
  have := Below.heap_setCell w p u q.block h
  unfold World.cell?
  rw [this]
theorem size_setCell (w : World) (p : Addr) (u : Value) : (w.setCell p u).heap.size = w.heap.size := by simp [World.setCell]

set_option maxHeartbeats 1000000 in
theorem expect_any (L R : Nat) (r : Rd) (g : Bool) (w : World) (h : RdAt w L R r) :
    Calls Tryz.prog 170 #[.pointer (some ⟨R, 0, none⟩), .bool g] w fun e w' => e = .returned (.tuple #[]) ∧ RdAt w' L R ⟨r.ws, r.bad || !g⟩ ∧ w.grownBy w' (some R) := by
  obtain ⟨ws, bad⟩ := r
  obtain ⟨h0, h1, a, cap, hk, h2, h3, h4⟩ := h
  simp only at hk h2 h4
  have c1 := cell_two1 hk
  have f1 := free_any hk 1
  have HK := hidIt hk
  have H4 := hidIt h4
  clear hk h4
  have fin : ∀ x : Bool, x = (bad || !g) → (RdAt (w.setCell ⟨R, 1, none⟩ (.bool x)) L R ⟨ws, bad || !g⟩ ∧ w.grownBy (w.setCell ⟨R, 1, none⟩ (.bool x)) (some R)) := fun x hx => by
    subst hx
    refine ⟨⟨by rw [size_setCell]; exact h0, h1, a, cap, two_setCell1 HK.out, h2, h3, fun i hi => ?_⟩, only_setCell (only_refl w _) (.inl rfl) _⟩
    obtain ⟨b, off, rfl, h5, h6, h7⟩ := H4.out i hi
    exact ⟨b, off, rfl, h5, h6, by rw [cell_off (show (⟨b, off + i, none⟩ : Addr).block ≠ (⟨R, 1, none⟩ : Addr).block from h6)]; exact h7⟩
  have FIN := hidIt fin
  clear fin
  cases bad <;> cases g
  all_goals
    go_enter Tryz.func170, Tryz.ntmps170
    go_wp2_with fail
    go_end0
    refine ⟨?_, FIN.out _ ?_⟩
    · rfl
    · rfl

set_option maxHeartbeats 1000000 in
theorem word_any (L R : Nat) (r : Rd) (w : World) (h : RdAt w L R r) :
    Calls Tryz.prog 135 #[.pointer (some ⟨R, 0, none⟩)] w fun e w' => e = .returned (.string (hdW r.ws)) ∧ RdAt w' L R (rdWord r) ∧ w.grownBy w' (some R) := by
  obtain ⟨ws, bad⟩ := r
  obtain ⟨h0, h1, a, cap, hk, h2, h3, h4⟩ := h
  simp only at hk h2 h4
  cases ws with
  | nil =>
    have c0 : w.cell? ⟨R, 0, none⟩ = some (.slice a 0 cap) := cell_two0 hk
    have HK := hidIt hk
    clear hk h4
    go_enter Tryz.func135, Tryz.ntmps135
    go_wp2_with fail
    go_ret
    exact ⟨rfl, ⟨h0, h1, a, cap, HK.out, Nat.zero_le _, h3, fun i hi => absurd hi (by simp [rdWord])⟩, only_refl _ _⟩
  | cons x t =>
    obtain ⟨b, off, rfl, h5, h6, h7⟩ := h4 0 (by simp)
    have H4 := hidIt h4
    have HK := hidIt hk
    simp only [List.getElem_cons_zero, Nat.add_zero] at h7
    have hn : (x :: t).length = t.length + 1 := rfl
    rw [hn] at hk h2
    have c0 := cell_two0 hk
    have f0 := free_any hk 0
    have hm1 : t.length + 1 ≤ 9223372036854775807 := by unfold maxLen at h3; omega
    have hm2 : cap ≤ 9223372036854775807 := by unfold maxLen at h3; omega
    have h31 : (1 : Int) ≤ (cap : Int) := by omega
    have h32 : (1 : Int) ≤ ((t.length + 1 : Nat) : Int) := by omega
    have h33 : ((t.length + 1 : Nat) : Int) ≠ 0 := by omega
    clear h4 hk
    have fin : ∀ ad : Option Addr, (ad = if cap = 1 then some ⟨b, off, none⟩ else some ⟨b, off + 1, none⟩) → (RdAt (w.setCell ⟨R, 0, none⟩ (.slice ad t.length (cap - 1))) L R ⟨t, bad⟩ ∧ w.grownBy (w.setCell ⟨R, 0, none⟩ (.slice ad t.length (cap - 1))) (some R)) := fun ad had => by
      refine ⟨⟨by rw [size_setCell]; exact h0, h1, ad, cap - 1, two_setCell0 HK.out, by show t.length ≤ cap - 1; omega, by unfold maxLen at *; omega, fun i hi => ?_⟩, only_setCell (only_refl w _) (.inl rfl) _⟩
      have hi' : i < t.length := hi
      have hc1 : cap ≠ 1 := by omega
      rw [if_neg hc1] at had
      subst had
      obtain ⟨b', off', e1, h5, h6, h7⟩ := H4.out (i + 1) (by simp; omega)
      injection e1 with e1
      injection e1 with e1 e2
      subst e1 e2
      refine ⟨b, off + 1, rfl, h5, h6, ?_⟩
      rw [cell_off (show (⟨b, off + 1 + i, none⟩ : Addr).block ≠ (⟨R, 0, none⟩ : Addr).block from h6), show off + 1 + i = off + (i + 1) by omega]
      exact h7
    have FIN := hidIt fin
    clear fin
    go_enter Tryz.func135, Tryz.ntmps135
    go_wp2_with fail
    all_goals
      go_ret
      refine ⟨rfl, ?_⟩
      first
        | (have hc : cap = 1 := by assumption
           subst hc
           exact FIN.out _ (if_pos rfl).symm)
        | exact FIN.out _ (if_neg (by assumption)).symm
end Go.Proofs.YtmhloapjadhifaaGreatDoor
