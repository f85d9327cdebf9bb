/- LessCommitted: the program's and the reference's, for any lists. Meet and Compare: the program's and the reference's, for any lists. Rows of ints that a call makes; Meet: the program's and the reference's; the reference's Compare. The reference's Meet and In; With: the program's and the reference's. slices.Repeat of one number. -/
import Derived.Test.YtfiaoibfejginaaDoorG0A
import Derived.Test.YtfiaoibfejginaaDoorShelf
import Derived.Test.YtfiaoibfejginaaDoorL1A
import Derived.Laws.CopyOwn
import Derived.Deep.RegionLaw

namespace Go.Proofs.YtfiaoibfejginaaDoor
set_option linter.unusedVariables false
set_option linter.unusedSimpArgs false
open Go Go.RowKit Go.Sort

/-- Is the first list less committed than the second one? -/
def lessF : List Int → List Int → Bool
  | [], [] => true
  | x :: r, y :: s => (!(decide (x = 1) || decide (x = 2)) || decide (y = x)) && lessF r s
  | [], _ :: _ => false
  | _ :: _, [] => false
theorem lessF_len : ∀ {xs ys : List Int}, xs.length ≠ ys.length → lessF xs ys = false
  | [], [], h => absurd rfl h
  | [], _ :: _, _ => rfl
  | _ :: _, [], _ => rfl
  | x :: r, y :: s, h => by
    have ih : lessF r s = false := lessF_len (fun e => h (by simp [e]))
    show (_ && lessF r s) = false
    rw [ih, Bool.and_false]
theorem lessF_step {xs ys : List Int} {k : Nat} (h1 : k < xs.length) (h2 : k < ys.length) : lessF (xs.drop k) (ys.drop k) = ((!(decide (xs[k] = 1) || decide (xs[k] = 2)) || decide (ys[k] = xs[k])) && lessF (xs.drop (k + 1)) (ys.drop (k + 1))) := by
  rw [List.drop_eq_getElem_cons h1, List.drop_eq_getElem_cons h2]
  rfl
theorem lessF_end {xs ys : List Int} {k : Nat} (h1 : k = xs.length) (h2 : xs.length = ys.length) : lessF (xs.drop k) (ys.drop k) = true := by
  rw [List.drop_of_length_le (by omega), List.drop_of_length_le (by omega)]
  rfl
theorem lessF_iff : ∀ {xs ys : List Int}, lessF xs ys = true ↔ xs.length = ys.length ∧ ∀ i (h1 : i < xs.length) (h2 : i < ys.length), xs[i] = 1 ∨ xs[i] = 2 → ys[i] = xs[i]
  | [], [] => ⟨fun _ => ⟨rfl, fun i h => by simp at h⟩, fun _ => rfl⟩
  | [], _ :: _ => ⟨fun h => (by cases h), fun h => (by simp at h)⟩
  | _ :: _, [] => ⟨fun h => (by cases h), fun h => (by simp at h)⟩
  | x :: r, y :: s => by
    show ((!(decide (x = 1) || decide (x = 2)) || decide (y = x)) && lessF r s) = true ↔ _
    rw [Bool.and_eq_true, lessF_iff]
    constructor
    · rintro ⟨h1, h2, h3⟩
      refine ⟨by simp [h2], fun i => ?_⟩
      cases i with
      | zero =>
        intro _ _ h
        show y = x
        have h : x = 1 ∨ x = 2 := h
        rcases h with h | h <;> simpa [h] using h1
      | succ i => exact fun a b => h3 i (by simpa using a) (by simpa using b)
    · rintro ⟨h2, h3⟩
      refine ⟨?_, by simpa using h2, fun i a b => h3 (i + 1) (by simpa using a) (by simpa using b)⟩
      have h0 : x = 1 ∨ x = 2 → y = x := h3 0 (by simp) (by simp)
      by_cases e : x = 1 ∨ x = 2
      · simp [h0 e]
      · simp only [not_or] at e
        simp [e.1, e.2]

end Go.Proofs.YtfiaoibfejginaaDoor

namespace Go.Proofs.YtfiaoibfejginaaDoor
set_option linter.unusedVariables false
set_option linter.unusedSimpArgs false
open Go Go.RowKit Go.Sort

/-- What two lists have in common. -/
def meetF : List Int → List Int → List Int
  | x :: r, y :: s => (if x = y then x else 3) :: meetF r s
  | _, _ => []
theorem meetF_len : ∀ (xs ys : List Int), (meetF xs ys).length = min xs.length ys.length
  | [], _ => by simp [meetF]
  | _ :: _, [] => by simp [meetF]
  | x :: r, y :: s => by
    show (meetF r s).length + 1 = _
    rw [meetF_len r s]
    simp only [List.length_cons]
    omega
theorem meetF_get : ∀ (xs ys : List Int) (i : Nat) (h : i < (meetF xs ys).length) (h1 : i < xs.length) (h2 : i < ys.length), (meetF xs ys)[i] = if xs[i] = ys[i] then xs[i] else 3
  | [], _, i, h, h1, _ => by simp at h1
  | _ :: _, [], i, h, _, h2 => by simp at h2
  | x :: r, y :: s, 0, h, h1, h2 => rfl
  | x :: r, y :: s, i + 1, h, h1, h2 => meetF_get r s i (by simpa [meetF] using h) (by simpa using h1) (by simpa using h2)
theorem meetF_take {xs ys : List Int} {k : Nat} (h1 : k < xs.length) (h2 : k < ys.length) : (meetF xs ys).take (k + 1) = (meetF xs ys).take k ++ [if xs[k] = ys[k] then xs[k] else 3] := by
  have hk : k < (meetF xs ys).length := by rw [meetF_len]; omega
  rw [List.take_succ_eq_append_getElem hk, meetF_get xs ys k hk h1 h2]

/-- The lists compared: -1, 0 or 1. -/
def cmpF : List Int → List Int → Int
  | [], [] => 0
  | [], _ :: _ => -1
  | _ :: _, [] => 1
  | x :: r, y :: s => if x < y then -1 else if y < x then 1 else cmpF r s
theorem cmpF_step {xs ys : List Int} {k : Nat} (h1 : k < xs.length) (h2 : k < ys.length) : cmpF (xs.drop k) (ys.drop k) = if xs[k] < ys[k] then -1 else if ys[k] < xs[k] then 1 else cmpF (xs.drop (k + 1)) (ys.drop (k + 1)) := by
  rw [List.drop_eq_getElem_cons h1, List.drop_eq_getElem_cons h2]
  rfl
theorem cmpF_end1 {xs ys : List Int} {k : Nat} (h1 : k = xs.length) (h2 : k < ys.length) : cmpF (xs.drop k) (ys.drop k) = -1 := by
  rw [List.drop_of_length_le (show xs.length ≤ k by omega), List.drop_eq_getElem_cons h2]
  rfl
theorem cmpF_end2 {xs ys : List Int} {k : Nat} (h1 : k < xs.length) (h2 : k = ys.length) : cmpF (xs.drop k) (ys.drop k) = 1 := by
  rw [List.drop_of_length_le (show ys.length ≤ k by omega), List.drop_eq_getElem_cons h1]
  rfl
theorem cmpF_end3 {xs ys : List Int} {k : Nat} (h1 : k = xs.length) (h2 : k = ys.length) : cmpF (xs.drop k) (ys.drop k) = 0 := by
  rw [List.drop_of_length_le (show xs.length ≤ k by omega), List.drop_of_length_le (show ys.length ≤ k by omega)]
  rfl
theorem cmpF_bd : ∀ (xs ys : List Int), -1 ≤ cmpF xs ys ∧ cmpF xs ys ≤ 1
  | [], [] => ⟨by decide, by decide⟩
  | [], _ :: _ => ⟨by show (-1 : Int) ≤ -1; decide, by show (-1 : Int) ≤ 1; decide⟩
  | _ :: _, [] => ⟨by show (-1 : Int) ≤ 1; decide, by show (1 : Int) ≤ 1; decide⟩
  | x :: r, y :: s => by
    have ih := cmpF_bd r s
    show -1 ≤ (if x < y then -1 else if y < x then 1 else cmpF r s) ∧ (if x < y then -1 else if y < x then 1 else cmpF r s) ≤ 1
    split
    · omega
    · split
      · omega
      · exact ih
theorem cmpF_neg : ∀ (xs ys : List Int), cmpF ys xs = - cmpF xs ys
  | [], [] => rfl
  | [], _ :: _ => rfl
  | _ :: _, [] => rfl
  | x :: r, y :: s => by
    have ih := cmpF_neg r s
    show (if y < x then -1 else if x < y then 1 else cmpF s r) = - (if x < y then -1 else if y < x then 1 else cmpF r s)
    by_cases h1 : x < y
    · rw [if_neg (by omega), if_pos h1, if_pos h1]; rfl
    · by_cases h2 : y < x
      · rw [if_pos h2, if_neg h1, if_pos h2]
      · rw [if_neg h2, if_neg h1, if_neg h1, if_neg h2, ih]

set_option maxRecDepth 100000 in
set_option maxHeartbeats 1000000 in
/-- slices.Compare of two lists of ints. -/
theorem slCompareI_any (v1 v2 : Value) (xs ys : List Int) (w : World) (h1 : IL w v1 xs) (h2 : IL w v2 ys) (hn : xs.length ≤ 1000000) (hm : ys.length ≤ 1000000) :
    Calls Tryd.prog 43 #[v1, v2] w fun e w' => e = .returned (.int .i64 (cmpF xs ys)) ∧ Below w.heap.size w w' := by
  obtain ⟨a1, c1, rfl, k1⟩ := h1.form
  obtain ⟨a2, c2, rfl, k2⟩ := h2.form
  have K1 := hidIt k1
  have K2 := hidIt k2
  clear k1 k2 h1 h2
  have HV : Hid (cmpF xs ys = cmpF (xs.drop 0) (ys.drop 0)) := (rfl : _ = _)
  generalize cmpF xs ys = V at *
  obtain ⟨L, hL⟩ : ∃ L, L = ys.length := ⟨_, rfl⟩
  have HY := hidIt hL
  rw [← hL] at hm ⊢
  obtain ⟨M, hM⟩ : ∃ M, M = xs.length := ⟨_, rfl⟩
  have HX := hidIt hM
  rw [← hM] at hn ⊢
  clear hL hM
  go_enter Tryd.func43, Tryd.ntmps43
  go_wp2_with fail
  go_loopw [5, 6, 7, 8, 11] (fun _ _ _ _ i wr => ∃ k : Nat, k ≤ M ∧ k ≤ L ∧ i = .int .i64 k ∧ wr = w ∧ Hid (V = cmpF (xs.drop k) (ys.drop k))) (fun _ _ _ _ i _ => M - (intOf i).toNat)
  case atStart => exact ⟨0, Nat.zero_le _, Nat.zero_le _, (by first | rfl | trivial), (by first | rfl | trivial), HV.out⟩
  case round =>
    clear HV
    obtain ⟨k, hk, hkl, rfl, rfl, HT⟩ := hrel
    have hkI0 : (0 : Int) ≤ (k : Int) := by omega
    by_cases hlt : k < M
    · have hkI : (k : Int) < (M : Int) := by omega
      have h1x : k < xs.length := by rw [← HX.out]; exact hlt
      obtain ⟨b1, o1, rfl, l1, p0⟩ := K1.out k h1x
      by_cases hle : k < L
      rotate_left
      · obtain rfl : k = L := by omega
        have HE : Hid (V = 1) := HT.out.trans (cmpF_end2 h1x HY.out)
        generalize xs[k] = x at *
        clear h1x HT
        have hge : (k : Int) ≤ (k : Int) := Int.le_refl _
        go_wp2_with fail
        go_ret
        exact ⟨ret_int HE.out.symm, Below.refl _ _⟩
      have hkL : (k : Int) < (L : Int) := by omega
      have hkL2 : ¬ (L : Int) ≤ (k : Int) := by omega
      have h1y : k < ys.length := by rw [← HY.out]; exact hle
      obtain ⟨b2, o2, rfl, l2, q0⟩ := K2.out k h1y
      have HS := hidIt (HT.out.trans (cmpF_step h1x h1y))
      generalize xs[k] = x at *
      generalize ys[k] = y at *
      clear h1x h1y HT
      by_cases hlt1 : x < y
      · have HE : Hid (V = -1) := by show _ = _; rw [HS.out, if_pos hlt1]
        have HC : Hid (Lib.compareInt x y = -1) := by show _ = _; unfold Lib.compareInt; simp [hlt1]
        clear hlt1 HS
        go_wp2_with fail
        refine (Tryd.cmp_Compare_int x y _).mono ?_
        rw [HC.out]
        rintro e w' ⟨rfl, rfl⟩
        go_wp2_with fail
        go_ret
        exact ⟨ret_int HE.out.symm, Below.refl _ _⟩
      · by_cases hlt2 : y < x
        · have HE : Hid (V = 1) := by show _ = _; rw [HS.out, if_neg hlt1, if_pos hlt2]
          have HC : Hid (Lib.compareInt x y = 1) := by show _ = _; unfold Lib.compareInt; simp [hlt1, hlt2]
          clear hlt1 hlt2 HS
          go_wp2_with fail
          refine (Tryd.cmp_Compare_int x y _).mono ?_
          rw [HC.out]
          rintro e w' ⟨rfl, rfl⟩
          go_wp2_with fail
          go_ret
          exact ⟨ret_int HE.out.symm, Below.refl _ _⟩
        · have HE : Hid (V = cmpF (xs.drop (k + 1)) (ys.drop (k + 1))) := by show _ = _; rw [HS.out, if_neg hlt1, if_neg hlt2]
          have HC : Hid (Lib.compareInt x y = 0) := by show _ = _; unfold Lib.compareInt; simp [hlt1, hlt2]
          clear hlt1 hlt2 HS
          go_wp2_with fail
          refine (Tryd.cmp_Compare_int x y _).mono ?_
          rw [HC.out]
          rintro e w' ⟨rfl, rfl⟩
          go_wp2_with fail
          go_roundw
          case rel => exact ⟨k + 1, by omega, by omega, by go_num, (by first | rfl | trivial), HE.out⟩
          case measure => simp [intOf]; omega
    · obtain rfl : k = M := by omega
      have hkI : ¬ (k : Int) < (k : Int) := by omega
      by_cases hle : k < L
      · have hkL : (k : Int) < (L : Int) := by omega
        have HE : Hid (V = -1) := HT.out.trans (cmpF_end1 HX.out (by rw [← HY.out]; exact hle))
        go_wp2_with fail
        go_ret
        exact ⟨ret_int HE.out.symm, Below.refl _ _⟩
      · obtain rfl : k = L := by omega
        have HE : Hid (V = 0) := HT.out.trans (cmpF_end3 HX.out HY.out)
        go_wp2_with fail
        go_ret
        exact ⟨ret_int HE.out.symm, Below.refl _ _⟩

set_option maxRecDepth 100000 in
set_option maxHeartbeats 1000000 in
theorem lCompare_any (v1 v2 : Value) (xs ys : List Int) (w : World) (h1 : IL w v1 xs) (h2 : IL w v2 ys) (hn : xs.length ≤ 1000000) (hm : ys.length ≤ 1000000) :
    Calls Tryd.prog 24 #[v1, v2] w fun e w' => e = .returned (.int .i64 (cmpF xs ys)) ∧ Below w.heap.size w w' := by
  have H1 := hidIt h1
  have H2 := hidIt h2
  obtain ⟨a1, c1, rfl, -⟩ := h1.form
  obtain ⟨a2, c2, rfl, -⟩ := h2.form
  clear h1 h2
  go_enter Tryd.func24, Tryd.ntmps24
  go_wp2_with fail
  refine (slCompareI_any _ _ xs ys _ H1.out H2.out hn hm).mono ?_
  rintro e w' ⟨rfl, hb⟩
  have HB := hidIt hb
  go_wp2_with fail
  go_ret
  exact ⟨rfl, HB.out⟩
end Go.Proofs.YtfiaoibfejginaaDoor

namespace Go.Proofs.YtfiaoibfejginaaDoor
set_option linter.unusedVariables false
set_option linter.unusedSimpArgs false
open Go Go.RowKit Go.Sort

/-- A block that holds a row of ints. -/
def IR (w : World) (b : Nat) (zs : List Int) : Prop := w.heap[b]? = some (.cells (intRow zs) 3 (0, 0))
theorem intRow_size (zs : List Int) : (intRow zs).size = zs.length := by simp [intRow]
theorem intRow_set (zs : List Int) (i : Nat) (z : Int) : (intRow zs).setIfInBounds i (.int .i64 z) = intRow (zs.set i z) := by
  unfold intRow
  rw [List.map_set]
  simp
theorem IR.cell {w : World} {b : Nat} {zs : List Int} (h : IR w b zs) {i : Nat} (hi : i < zs.length) : w.cell? ⟨b, i, none⟩ = some (.int .i64 zs[i]) := int_cell h i hi
theorem IR.ex {w : World} {b : Nat} {zs : List Int} (h : IR w b zs) {i : Nat} (hi : i < zs.length) : ∃ z, w.cell? ⟨b, i, none⟩ = some (.int .i64 z) := ⟨_, h.cell hi⟩
theorem IR.free {w : World} {b : Nat} {zs : List Int} (h : IR w b zs) (i : Nat) : w.frozen? ⟨b, i, none⟩ = false := free_any h i
theorem IR.set {w : World} {b : Nat} {zs : List Int} (h : IR w b zs) (i : Nat) (z : Int) : IR (w.setCell ⟨b, i, none⟩ (.int .i64 z)) b (zs.set i z) := by
  unfold IR
  rw [set_cells h, intRow_set]
theorem IR.go {w w' : World} {b : Nat} {zs : List Int} (h : IR w b zs) (hb : Below w.heap.size w w') : IR w' b zs := blk_kept2 h hb
theorem IR.lt {w : World} {b : Nat} {zs : List Int} (h : IR w b zs) : b < w.heap.size := lt_of_block h
theorem IR.il {w : World} {b : Nat} {zs : List Int} (h : IR w b zs) {c : Nat} (hc : zs.length ≤ c) (hm : c ≤ maxLen) : IL w (.slice (some ⟨b, 0, none⟩) zs.length c) zs :=
  .inr ⟨b, 0, c, rfl, hc, hm, h.lt, fun i hi => by rw [Nat.zero_add]; exact h.cell hi⟩
theorem made_ints (n : Nat) : madeCells #[.int .i64 0] n = intRow (List.replicate n 0) := by
  apply Array.ext_getElem?
  intro i
  by_cases h : i < n
  · have h2 : (intRow (List.replicate n 0))[i]? = some (.int .i64 0) := by simp [intRow, h]
    rw [h2]
    unfold madeCells
    simp [h]
    rw [show i % 1 = 0 from Nat.mod_one i]
    rfl
  · have h1 : (intRow (List.replicate n 0))[i]? = none := Array.getElem?_eq_none (by rw [intRow_size, List.length_replicate]; omega)
    rw [h1]
    unfold madeCells
    simp
    omega
theorem make_intsR (n : Nat) (hn : n ≤ 1000000) (w : World) : (Instr.makeSlice 25 (.int .i64 (n : Int)) (.int .i64 (n : Int))).run Tryd.prog w = .ok (.slice (some ⟨w.heap.size, 0, none⟩) n n) (w.alloc (.cells (intRow (List.replicate n 0)) 3)) := by
  obtain ⟨i0, hi, hz0, hz1, hz2⟩ := info_parts infoI9
  have hr := run_make (P := Tryd.prog) w 25 3 i0 _ Tryd.underlying25 hi hz0 .i64 .i64 (n : Int) (n : Int) (by omega) (by omega) (by rw [hz2]; omega) (by omega)
  rw [hz1] at hr
  simp only [Int.toNat_natCast, Nat.mul_one] at hr
  rw [← made_ints]
  exact hr

/-- What Meet's row holds before round k. -/
def meetAt (xs ys : List Int) (n k : Nat) : List Int := (meetF xs ys).take k ++ List.replicate (n - k) 0
theorem meetAt_len {xs ys : List Int} {n k : Nat} (hn : n = min xs.length ys.length) (hk : k ≤ n) : (meetAt xs ys n k).length = n := by
  unfold meetAt
  rw [List.length_append, List.length_take, meetF_len, List.length_replicate]
  omega
theorem meetAt_set {xs ys : List Int} {n k : Nat} (hn : n = min xs.length ys.length) (hk : k < n) (v : Int) : (meetAt xs ys n k).set k v = (meetF xs ys).take k ++ v :: List.replicate (n - (k + 1)) 0 := by
  unfold meetAt
  have hl : ((meetF xs ys).take k).length = k := by rw [List.length_take, meetF_len]; omega
  rw [List.set_append_right (h := by omega), hl, Nat.sub_self, show n - k = n - (k + 1) + 1 by omega, List.replicate_succ]
  rfl
theorem meetAt_step {xs ys : List Int} {n k : Nat} (hn : n = min xs.length ys.length) (hk : k < n) (h1 : k < xs.length) (h2 : k < ys.length) : meetAt xs ys n (k + 1) = (meetAt xs ys n k).set k (if xs[k] = ys[k] then xs[k] else 3) := by
  rw [meetAt_set hn hk]
  unfold meetAt
  rw [meetF_take h1 h2, List.append_assoc]
  rfl
theorem meetAt_end {xs ys : List Int} {n : Nat} (hn : n = min xs.length ys.length) : meetAt xs ys n n = meetF xs ys := by
  unfold meetAt
  rw [List.take_of_length_le (by rw [meetF_len]; omega), Nat.sub_self]
  simp

set_option maxRecDepth 100000 in
set_option maxHeartbeats 2000000 in
theorem lMeet_any (v1 v2 : Value) (xs ys : List Int) (w : World) (h1 : IL w v1 xs) (h2 : IL w v2 ys) (hn : xs.length ≤ 100000) (hm : ys.length ≤ 100000) :
    Calls Tryd.prog 26 #[v1, v2] w fun e w' => ∃ (b : Nat), e = .returned (.slice (some ⟨b, 0, none⟩) (min xs.length ys.length) (min xs.length ys.length)) ∧ w.heap.size ≤ b ∧ IR w' b (meetF xs ys) ∧ Below w.heap.size w w' := by
  obtain ⟨a1, c1, rfl, k1⟩ := h1.ic
  obtain ⟨a2, c2, rfl, k2⟩ := h2.ic
  have K1 := hidIt k1
  have K2 := hidIt k2
  clear k1 k2 h1 h2
  obtain ⟨n, hnn⟩ : ∃ n, n = min xs.length ys.length := ⟨_, rfl⟩
  have HN := hidIt hnn
  rw [← hnn]
  have hn2 : n ≤ 100000 := by omega
  have HM : Hid (min (xs.length : Int) (ys.length : Int) = (n : Int)) := by show _ = _; omega
  clear hnn
  obtain ⟨L, hL⟩ : ∃ L, L = ys.length := ⟨_, rfl⟩
  have HY := hidIt hL
  rw [← hL] at hm HM ⊢
  obtain ⟨M, hM⟩ : ∃ M, M = xs.length := ⟨_, rfl⟩
  have HX := hidIt hM
  rw [← hM] at hn HM ⊢
  clear hL hM
  have hmin := HM.out
  have hmk := fun w => make_intsR n (by omega) w
  have HR0 : Hid (IR (w.alloc (.cells (intRow (List.replicate n 0)) 3)) w.heap.size (meetAt xs ys n 0)) := by
    show IR _ _ _
    unfold meetAt
    exact heap_alloc_new w _
  have HB0 := hidIt (bgrow w (.cells (intRow (List.replicate n 0)) 3))
  go_enter Tryd.func26, Tryd.ntmps26
  go_upto_region 2 with (fail)
  clear hmk hmin
  generalize (w.alloc (.cells (intRow (List.replicate n 0)) 3)) = w1 at *
  obtain ⟨P, hP⟩ : ∃ P, P = w.heap.size := ⟨_, rfl⟩
  have HP := hidIt hP
  rw [← hP] at HR0 ⊢
  clear hP
  go_wp2_with fail
  go_loopw [6, 15] (fun _ i wr => ∃ k : Nat, k ≤ n ∧ i = .int .i64 k ∧ Hid (IR wr P (meetAt xs ys n k)) ∧ Hid (Below w.heap.size w wr)) (fun _ i _ => n - (intOf i).toNat)
  case atStart => exact ⟨0, Nat.zero_le _, (by first | rfl | trivial), HR0.out, HB0.out⟩
  case round =>
    clear HR0 HB0
    obtain ⟨k, hk, rfl, HR, HB⟩ := hrel
    have hkI0 : (0 : Int) ≤ (k : Int) := by omega
    by_cases hlt : k < n
    · have hkI : (k : Int) < (n : Int) := by omega
      have hn' := HN.out
      have hX := HX.out
      have hY := HY.out
      have hM' := HM.out
      have hkM : (k : Int) < (M : Int) := by omega
      have hkL : (k : Int) < (L : Int) := by omega
      have h1x : k < xs.length := by omega
      have h1y : k < ys.length := by omega
      have hlen := meetAt_len (xs := xs) (ys := ys) hn' hk
      obtain ⟨z0, hcP⟩ := HR.out.ex (i := k) (by omega)
      have hfP := HR.out.free k
      have hlP := HR.out.lt
      have HR3 := hidIt (HR.out.set k 3)
      have HB3 : Hid (Below w.heap.size w (wr.setCell ⟨P, k, none⟩ (.int .i64 3))) := below_set5 HB.out (Nat.le_of_eq HP.out.symm)
      have HST := hidIt (meetAt_step (xs := xs) (ys := ys) hn' hlt h1x h1y)
      clear hn' hX hY hM' hlen
      go_upto_region 6 with (fail)
      generalize (wr.setCell ⟨P, k, none⟩ (.int .i64 3)) = w3 at *
      clear hcP hfP hlP
      obtain ⟨b1, o1, rfl, l1, hc1⟩ := (K1.out.go HB3.out).at_ h1x
      obtain ⟨b2, o2, rfl, l2, hc2⟩ := (K2.out.go HB3.out).at_ h1y
      have p0 := hc1 k h1x
      have q0 := hc2 k h1y
      clear hc1 hc2
      generalize xs[k] = x at *
      generalize ys[k] = y at *
      have hlen3 : ((meetAt xs ys n k).set k 3).length = n := by rw [List.length_set]; exact meetAt_len HN.out hk
      obtain ⟨z3, hcP⟩ := HR3.out.ex (i := k) (by omega)
      have hfP := HR3.out.free k
      have hlP := HR3.out.lt
      clear hlen3
      clear h1x h1y
      by_cases he : x = y
      · have hb : (x == y) = true := beq_iff_eq.2 he
        have HE : Hid (IR (w3.setCell ⟨P, k, none⟩ (.int .i64 x)) P (meetAt xs ys n (k + 1))) := by
          have := HR3.out.set k x
          rw [List.set_set] at this
          show IR _ _ _
          rw [HST.out, if_pos he]
          exact this
        have HB4 : Hid (Below w.heap.size w (w3.setCell ⟨P, k, none⟩ (.int .i64 x))) := below_set5 HB3.out (Nat.le_of_eq HP.out.symm)
        clear he HST
        go_quiet (fail)
        go_wp2_with fail
        go_roundw
        case rel => exact ⟨k + 1, by omega, by go_num, HE.out, ⟨HB4.out.os, HB4.out.tape, HB4.out.output, HB4.out.size, HB4.out.block⟩⟩
        case measure => simp [intOf]; omega
      · have hb : (x == y) = false := beq_eq_false_iff_ne.2 he
        have HE : Hid (IR w3 P (meetAt xs ys n (k + 1))) := by
          show IR _ _ _
          rw [HST.out, if_neg he]
          exact HR3.out
        clear he HST
        go_quiet (fail)
        go_wp2_with fail
        go_roundw
        case rel => exact ⟨k + 1, by omega, by go_num, HE.out, ⟨HB3.out.os, HB3.out.tape, HB3.out.output, HB3.out.size, HB3.out.block⟩⟩
        case measure => simp [intOf]; omega
    · obtain rfl : k = n := by omega
      have hkI : ¬ (k : Int) < (k : Int) := by omega
      have HE : Hid (IR wr P (meetF xs ys)) := by
        have := HR.out
        rwa [meetAt_end HN.out] at this
      go_wp2_with fail
      go_ret
      exact ⟨P, rfl, Nat.le_of_eq HP.out.symm, HE.out, HB.out⟩

end Go.Proofs.YtfiaoibfejginaaDoor

namespace Go.Proofs.YtfiaoibfejginaaDoor
set_option linter.unusedVariables false
set_option linter.unusedSimpArgs false
open Go Go.RowKit Go.Sort

theorem OwnI.news {w : World} {B k c : Nat} {a : Option Addr} {zs : List Int} (h : OwnI w B (.slice a k c) zs) (hl : zs.length = k) (o : Obj) : World.ownsRow (w.alloc o) B 3 1 (.slice a k c) k (zs.map (Value.int .i64)) := by
  have h2 := h.go (bgrow w o)
  unfold OwnI at h2
  rw [hl] at h2
  exact h2
theorem OwnI.done {w : World} {B k : Nat} {v : Value} {zs : List Int} {z : Int} (hl : zs.length = k) (h : World.ownsRow w B 3 1 v (k + 1) (zs.map (Value.int .i64) ++ [.int .i64 z])) : OwnI w B v (zs ++ [z]) := by
  subst hl
  exact OwnI.snoc h
theorem OwnI.drewN {w : World} {B : Nat} {v : Value} {zs : List Int} (h : OwnI w B v zs) (n : Nat) : OwnI (w.drewN n) B v zs := owns_kept h (fun g e => rfl)
theorem below_drewN9 {n : Nat} {w a : World} (h : Below n w a) (m : Nat) : Below n w (a.drewN m) := ⟨h.os, h.tape, h.output, h.size, h.block⟩

set_option maxRecDepth 100000 in
set_option maxHeartbeats 1000000 in
/-- Is a number in a list? -/
theorem rlIn_any (v : Value) (xs : List Int) (x : Int) (w : World) (h : IL w v xs) (hn : xs.length ≤ 1000000) :
    Calls Tryd.prog 71 #[v, .int .i64 x] w fun e w' => e = .returned (.bool (decide (x ∈ xs))) ∧ w' = w := by
  obtain ⟨a1, c1, rfl, k1⟩ := h.form
  have K1 := hidIt k1
  clear k1 h
  obtain ⟨M, hM⟩ : ∃ M, M = xs.length := ⟨_, rfl⟩
  have HX := hidIt hM
  rw [← hM] at hn ⊢
  clear hM
  go_enter Tryd.func71, Tryd.ntmps71
  go_wp2_with fail
  go_loopw [5] (fun i wr => ∃ k : Nat, k ≤ M ∧ i = .int .i64 k ∧ wr = w ∧ Hid (x ∉ xs.take k)) (fun i _ => M - (intOf i).toNat)
  case atStart => exact ⟨0, Nat.zero_le _, (by first | rfl | trivial), (by first | rfl | trivial), (show x ∉ xs.take 0 from by simp)⟩
  case round =>
    obtain ⟨k, hk, rfl, rfl, HT⟩ := hrel
    have hkI0 : (0 : Int) ≤ (k : Int) := by omega
    by_cases hlt : k < M
    · have hkI : (k : Int) < (M : Int) := by omega
      have HLT : Hid (k < xs.length) := by show k < _; rw [← HX.out]; exact hlt
      obtain ⟨b1, o1, rfl, l1, p0⟩ := K1.out k HLT.out
      obtain ⟨y, hy⟩ : ∃ y, y = xs[k]'HLT.out := ⟨_, rfl⟩
      rw [← hy] at p0
      have EY := hidIt hy
      clear hy
      by_cases he : y = x
      · have hb : (y == x) = true := beq_iff_eq.2 he
        have HE : Hid (x ∈ xs) := by show x ∈ xs; rw [← he, EY.out]; exact List.getElem_mem _
        clear he
        go_wp2_with fail
        go_ret
        exact ⟨ret_bool (by rw [decide_eq_true HE.out]), rfl⟩
      · have hb : (y == x) = false := beq_eq_false_iff_ne.2 he
        have HE : Hid (x ∉ xs.take (k + 1)) := by
          show x ∉ _
          rw [List.take_succ_eq_append_getElem HLT.out, List.mem_append, List.mem_singleton, ← EY.out]
          rintro (h | h)
          · exact HT.out h
          · exact he h.symm
        clear he
        go_wp2_with fail
        go_roundw
        case rel => exact ⟨k + 1, by omega, by go_num, (by first | rfl | trivial), HE.out⟩
        case measure => simp [intOf]; omega
    · have hkI : ¬ (k : Int) < (M : Int) := by omega
      have HE : Hid (x ∉ xs) := by
        have := HT.out
        rwa [List.take_of_length_le (by rw [← HX.out]; omega)] at this
      go_wp2_with fail
      go_ret
      exact ⟨ret_bool (by rw [decide_eq_false HE.out]), rfl⟩

/-- The places of the elements that are x. -/
def withF (xs : List Int) (x : Int) : List Nat := (List.range xs.length).filter fun i => decide (xs[i]? = some x)
def withTo (xs : List Int) (x : Int) (k : Nat) : List Nat := (List.range k).filter fun i => decide (xs[i]? = some x)
theorem withTo_step (xs : List Int) (x : Int) {k : Nat} (h : k < xs.length) : withTo xs x (k + 1) = withTo xs x k ++ if xs[k] = x then [k] else [] := by
  have e := List.getElem?_eq_getElem (l := xs) h
  unfold withTo
  rw [List.range_succ, List.filter_append]
  congr 1
  by_cases hx : xs[k] = x
  · rw [if_pos hx]; simp [e, hx]
  · rw [if_neg hx]; simp [e, hx]
theorem withTo_len (xs : List Int) (x : Int) (k : Nat) : (withTo xs x k).length ≤ k := by
  unfold withTo
  exact Nat.le_trans (List.length_filter_le _ _) (by rw [List.length_range]; exact Nat.le_refl _)
theorem mem_withF {xs : List Int} {x : Int} {i : Nat} : i ∈ withF xs x ↔ xs[i]? = some x := by
  unfold withF
  rw [List.mem_filter, List.mem_range, decide_eq_true_eq]
  exact ⟨fun h => h.2, fun h => ⟨by
    rcases Nat.lt_or_ge i xs.length with h' | h'
    · exact h'
    · rw [List.getElem?_eq_none h'] at h; (cases h), h⟩⟩

set_option maxRecDepth 100000 in
set_option maxHeartbeats 2000000 in
theorem lWith_any (v : Value) (xs : List Int) (x : Int) (w : World) (h : IL w v xs) (hn : xs.length ≤ 100000) :
    Calls Tryd.prog 37 #[v, .int .i64 x] w fun e w' => ∃ (a : Option Addr) (c : Nat), e = .returned (.slice a (withF xs x).length c) ∧ OwnI w' w.heap.size (.slice a (withF xs x).length c) (ints (withF xs x)) ∧ Below w.heap.size w w' := by
  obtain ⟨a1, c1, rfl, k1⟩ := h.ic
  have K1 := hidIt k1
  clear k1 h
  obtain ⟨M, hM⟩ : ∃ M, M = xs.length := ⟨_, rfl⟩
  have HX := hidIt hM
  have HWF : Hid (withF xs x = withTo xs x M) := by show _ = _; rw [hM]; rfl
  rw [← hM] at hn ⊢
  clear hM
  go_enter Tryd.func37, Tryd.ntmps37
  go_wp2_with fail
  go_loopw [5, 6, 7, 10] (fun v5 _ _ i wr => ∃ (k l : Nat) (a : Option Addr) (c : Nat), k ≤ M ∧ v5 = .slice a l c ∧ i = .int .i64 k ∧ Hid (l = (withTo xs x k).length) ∧ Hid (OwnI wr w.heap.size (.slice a l c) (ints (withTo xs x k))) ∧ Hid (Below w.heap.size w wr)) (fun _ _ _ i _ => M - (intOf i).toNat)
  case atStart => exact ⟨0, 0, none, 0, Nat.zero_le _, (by first | rfl | trivial), (by first | rfl | trivial), (rfl : 0 = (withTo xs x 0).length), OwnI.nil _ _, Below.refl _ _⟩
  case round =>
    obtain ⟨k, l, a, c, hk, rfl, rfl, HL, HO, HB⟩ := hrel
    have hkI0 : (0 : Int) ≤ (k : Int) := by omega
    by_cases hlt : k < M
    · have hkI : (k : Int) < (M : Int) := by omega
      have h1x : k < xs.length := by have := HX.out; omega
      have HST := hidIt (withTo_step xs x h1x)
      have HTL : Hid ((ints (withTo xs x k)).length = l) := by show _ = _; rw [ints_len]; exact HL.out.symm
      have hl5 : l ≤ k := by rw [HL.out]; exact withTo_len _ _ _
      obtain ⟨b1, o1, rfl, l1, hc1⟩ := (K1.out.go HB.out).at_ h1x
      have p0 := hc1 k h1x
      clear hc1
      generalize xs[k] = z at *
      clear h1x
      by_cases he : z = x
      · have hb : (z == x) = true := beq_iff_eq.2 he
        rw [if_pos he] at HST
        clear he
        have HO7 := hidIt (HO.out.news HTL.out (.cells #[.int .i64 (k : Int)] 3))
        have HB7 := hidIt (HB.out.trans (Below.mono (bgrow wr (.cells #[.int .i64 (k : Int)] 3)) HB.out.size))
        have hsz7 : w.heap.size ≤ (wr.alloc (.cells #[.int .i64 (k : Int)] 3)).heap.size := HB7.out.size
        go_wp2_with (at_builtin; refine Hid.out ?_)
        refine hidIt ?_
        refine wpList_append_kb rfl _ _ elemI rfl w.heap.size (.slice a l c) l _ rfl HO7.out _ 1 rfl #[.int .i64 (k : Int)] 3 (heap_alloc_new _ _) rfl (one_of (by rfl)) (by omega) hsz7 ?_
        intro g8 c8 w8 hown8 hg8 hbl8
        have HB8 := hidIt (below_app5 HB7.out hg8 (fun g e => (owns_blk HO7.out g e).1) hsz7)
        have HO8 : Hid (OwnI w8 w.heap.size (.slice (some ⟨g8, 0, none⟩) (l + 1) c8) (ints (withTo xs x (k + 1)))) := by
          have := OwnI.done HTL.out hown8
          show OwnI _ _ _ _
          rw [HST.out]
          unfold ints at this ⊢
          rw [List.map_append]
          exact this
        have HL8 : Hid (l + 1 = (withTo xs x (k + 1)).length) := by show _ = _; rw [HST.out, List.length_append, ← HL.out]; rfl
        clear hown8 hg8 hbl8 HO7 HB7 hsz7 HO HB p0 l1
        go_wp2_with fail
        go_roundw
        case rel => exact ⟨k + 1, l + 1, some ⟨g8, 0, none⟩, c8, by omega, (by first | rfl | trivial), by go_num, HL8.out, HO8.out, HB8.out⟩
        case measure => simp [intOf]; omega
      · have hb : (z == x) = false := beq_eq_false_iff_ne.2 he
        rw [if_neg he, List.append_nil] at HST
        clear he
        go_wp2_with fail
        go_roundw
        case rel => exact ⟨k + 1, l, a, c, by omega, (by first | rfl | trivial), by go_num, (by rw [HST.out]; exact HL.out), (by rw [HST.out]; exact HO.out), HB.out⟩
        case measure => simp [intOf]; omega
    · obtain rfl : k = M := by omega
      have hkI : ¬ (k : Int) < (k : Int) := by omega
      go_wp2_with fail
      go_ret
      rw [HWF.out, ← HL.out]
      exact ⟨a, c, rfl, HO.out, HB.out⟩

end Go.Proofs.YtfiaoibfejginaaDoor

namespace Go.Proofs.YtfiaoibfejginaaDoor
set_option linter.unusedVariables false
set_option linter.unusedSimpArgs false
open Go Go.RowKit Go.Sort

theorem intRow_arr (zs : List Int) : intRow zs = (zs.map (Value.int .i64)).toArray := rfl
theorem rep_splice (z : Int) {N m c : Nat} (h : m + c ≤ N) : splice ((List.replicate m z ++ List.replicate (N - m) 0).map (Value.int .i64)) m (List.replicate c (.int .i64 z)) = (List.replicate (m + c) z ++ List.replicate (N - (m + c)) 0).map (Value.int .i64) := by
  unfold splice
  rw [List.map_append, List.map_append, List.map_replicate, List.map_replicate, List.map_replicate, List.map_replicate]
  rw [List.take_append_of_le_length (by simp), List.take_of_length_le (by simp), List.drop_append, List.drop_of_length_le (by simp), List.nil_append, List.drop_replicate, List.length_replicate, ← List.append_assoc, List.replicate_append_replicate]
  congr 2
  simp only [List.length_replicate]
  omega
theorem oneI (c : Nat) (z : Int) : ∀ v ∈ List.replicate c (Value.int .i64 z), v.oneCell' = true := by
  intro v hv
  rw [List.eq_of_mem_replicate hv]
  rfl

theorem add_plain9 (b off i : Nat) : (⟨b, off, none⟩ : Addr).add i = ⟨b, off + i, none⟩ := by unfold Addr.add; split <;> simp_all
theorem elemI1 : (Tryd.prog.info? 3).map (·.size) = some 1 := by kernel_rfl
set_option maxRecDepth 100000 in
set_option maxHeartbeats 400000 in
theorem slRepeatI_any (b0 o0 c0 : Nat) (z : Int) (N : Nat) (hN : N ≤ 1000) (w : World) (hc : w.cell? ⟨b0, o0, none⟩ = some (.int .i64 z)) (hb : b0 < w.heap.size) :
    Calls Tryd.prog 59 #[.slice (some ⟨b0, o0, none⟩) 1 c0, .int .i64 (N : Int)] w fun e w' => ∃ b : Nat, e = .returned (.slice (some ⟨b, 0, none⟩) N N) ∧ w.heap.size ≤ b ∧ IR w' b (List.replicate N z) ∧ Below w.heap.size w w' := by
  have hn0 : ¬ (N : Int) < 0 := by omega
  have hwu : IntKind.u64.wrap (N : Int) = (N : Int) := IntWalk.u64_in _ (by omega)
  have hwi : IntKind.i64.wrap (N : Int) = (N : Int) := IntWalk.i64_in _ (by omega)
  have hmk := fun w => make_intsR N (by omega) w
  have e1 : 1 * N / 18446744073709551616 = 0 := by omega
  have e2 : 1 * N % 18446744073709551616 = N := by omega
  have E1 := hidIt e1
  have E2 := hidIt e2
  have HC := hidIt hc
  clear e1 e2 hc
  go_enter Tryd.func59, Tryd.ntmps59
  go_wp2_with fail
  refine (Tryd.bits_Mul 1 N (by decide) (by omega) _).mono ?_
  rw [E1.out, E2.out]
  rintro e w' ⟨rfl, rfl⟩
  have hN2 : ¬ (9223372036854775807 : Int) < (N : Int) := by omega
  have HR0 : Hid (IR (w'.alloc (.cells (intRow (List.replicate N 0)) 3)) w'.heap.size (List.replicate 0 z ++ List.replicate (N - 0) 0)) := heap_alloc_new w' _
  have HB0 := hidIt (bgrow w' (.cells (intRow (List.replicate N 0)) 3))
  have HC0 : Hid ((w'.alloc (.cells (intRow (List.replicate N 0)) 3)).cell? ⟨b0, o0, none⟩ = some (.int .i64 z)) := (Below.cell (p := ⟨b0, o0, none⟩) HB0.out hb).trans HC.out
  go_upto_region 7 with (fail)
  clear hmk
  generalize (w'.alloc (.cells (intRow (List.replicate N 0)) 3)) = w1 at *
  obtain ⟨P, hP⟩ : ∃ P, P = w'.heap.size := ⟨_, rfl⟩
  have HP := hidIt hP
  rw [← hP] at HR0 ⊢
  clear hP
  by_cases hz : N = 0
  · subst hz
    go_wp2_with (with_reducible refine wpList_copy_nothing rfl (.tmp 31) (.tmp 32) 25 25 rfl 3 Tryd.underlying25 elemI1 _ _ _ _ _ _ rfl rfl (by decide) ?_)
    go_loopw [8] (fun v8 wr => v8 = .int .i64 0 ∧ wr = w1) (fun _ _ => 0)
    case atStart => exact ⟨(by first | rfl | trivial), (by first | rfl | trivial)⟩
    case round =>
      obtain ⟨rfl, rfl⟩ := hrel
      go_wp2_with fail
      go_ret
      exact ⟨P, rfl, Nat.le_of_eq HP.out.symm, HR0.out, HB0.out⟩
  · have hN1 : 1 ≤ N := by omega
    have HBP : Hid (w'.heap.size ≤ P) := Nat.le_of_eq HP.out.symm
    have HCN : Hid ((List.replicate 1 (Value.int .i64 z)).length = Nat.min 1 N) := by show 1 = min 1 N; omega
    have HPO : Hid (0 < (List.replicate 1 (Value.int .i64 z)).length → (some ⟨P, 0, none⟩ : Option Addr) = some ⟨P, 0, none⟩ ∧ ∃ ad, (some ⟨b0, o0, none⟩ : Option Addr) = some ad ∧ ∀ j v, (List.replicate 1 (Value.int .i64 z))[j]? = some v → w1.cell? (ad.add j) = some v) := fun _ => ⟨rfl, ⟨b0, o0, none⟩, rfl, fun j v hj => by
      have h1 := (List.getElem?_eq_some_iff.1 hj).1
      simp at h1
      subst h1
      obtain rfl : Value.int .i64 z = v := by simpa using hj
      rw [add_plain9, Nat.add_zero]
      exact HC0.out⟩
    have HFI : Hid (0 + (List.replicate 1 (Value.int .i64 z)).length ≤ ((List.replicate 0 z ++ List.replicate (N - 0) 0).map (Value.int .i64)).length) := by show _ ≤ _; simp; omega
    have HG0 : Hid (w1.heap[P]? = some (.cells ((List.replicate 0 z ++ List.replicate (N - 0) 0).map (Value.int .i64)).toArray 3 (0, 0))) := HR0.out
    go_wp2_with (with_reducible refine wpList_copy_splice rfl (.tmp 31) (.tmp 32) 25 25 rfl 3 Tryd.underlying25 elemI1 _ _ _ _ _ _ rfl rfl P 0 ((List.replicate 0 z ++ List.replicate (N - 0) 0).map (Value.int .i64)) 3 HG0.out (List.replicate 1 (.int .i64 z)) HCN.out HPO.out HFI.out (oneI 1 z) w'.heap.size w' HB0.out HBP.out ?_; intro w2 hg2 hb2)
    have HR2 : Hid (IR w2 P (List.replicate 1 z ++ List.replicate (N - 1) 0)) := by
      have h := hg2.out
      rw [rep_splice z (N := N) (m := 0) (c := 1) (by omega)] at h
      exact h
    have HB2 := hidIt hb2
    clear hg2 hb2 HR0 HB0 HC0
    clear HCN HPO HFI HG0
    go_loopw [8] (fun v8 wr => ∃ m : Nat, v8 = .int .i64 m ∧ 1 ≤ m ∧ m ≤ N ∧ Hid (IR wr P (List.replicate m z ++ List.replicate (N - m) 0)) ∧ Hid (Below w'.heap.size w' wr)) (fun v8 _ => N - (intOf v8).toNat)
    case atStart => exact ⟨1, (by first | rfl | trivial), Nat.le_refl _, hN1, HR2.out, HB2.out⟩
    case round =>
      clear HR2 HB2
      obtain ⟨m, rfl, hm1, hmN, HR, HB⟩ := hrel
      have hm0 : (0 : Int) ≤ (m : Int) := by omega
      by_cases hlt : m < N
      · have hmI : (m : Int) < (N : Int) := by omega
        have hmI2 : (m : Int) ≤ (N : Int) := by omega
        obtain ⟨c, hc⟩ : ∃ c, c = min m (N - m) := ⟨_, rfl⟩
        have hc1 : 1 ≤ c := by omega
        have hc2 : m + c ≤ N := by omega
        have HCN : Hid ((List.replicate c (Value.int .i64 z)).length = Nat.min m (N - m)) := by show _ = min m (N - m); rw [List.length_replicate]; exact hc
        have HPO : Hid (∀ j v, (List.replicate c (Value.int .i64 z))[j]? = some v → wr.drew.cell? ((⟨P, 0, none⟩ : Addr).add j) = some v) := fun j v hj => by
          have h1 := (List.getElem?_eq_some_iff.1 hj).1
          rw [List.length_replicate] at h1
          have h2 : v = .int .i64 z := List.eq_of_mem_replicate (List.mem_of_getElem? hj)
          subst h2
          rw [add_plain9, Nat.zero_add]
          have h3 := HR.out.cell (i := j) (by simp; omega)
          rw [List.getElem_append_left (by simp; omega), List.getElem_replicate] at h3
          exact h3
        have HFI : Hid (m + (List.replicate c (Value.int .i64 z)).length ≤ ((List.replicate m z ++ List.replicate (N - m) 0).map (Value.int .i64)).length) := by show _ ≤ _; simp; omega
        have HG0 : Hid (wr.drew.heap[P]? = some (.cells ((List.replicate m z ++ List.replicate (N - m) 0).map (Value.int .i64)).toArray 3 (0, 0))) := HR.out
        have HBd : Hid (Below w'.heap.size w' wr.drew) := ⟨HB.out.os, HB.out.tape, HB.out.output, HB.out.size, HB.out.block⟩
        have hw : IntKind.i64.wrap ((m : Int) + (c : Int)) = (m : Int) + (c : Int) := IntWalk.i64_in _ (by omega)
        have hNm : ¬ N = m := by omega
        have HSP := hidIt (rep_splice z (N := N) (m := m) (c := c) hc2)
        have hcl : (List.replicate c (Value.int .i64 z)).length = c := List.length_replicate
        clear hc
        go_wp2_with fail
        go_region_law (with_reducible refine step_copy_splice rfl (.tmp 41) (.tmp 44) 25 25 rfl 3 Tryd.underlying25 elemI1 (some ⟨P, m, none⟩) (some ⟨P, 0, none⟩) (N - m) (N - m) m N (by go_simp) (by go_simp) P m ((List.replicate m z ++ List.replicate (N - m) 0).map (Value.int .i64)) 3 HG0.out (List.replicate c (.int .i64 z)) HCN.out (fun _ => ⟨rfl, ⟨P, 0, none⟩, rfl, HPO.out⟩) HFI.out (oneI c z) w'.heap.size w' HBd.out HBP.out ?_; intro w4 hg4 hb4)
        have HR4 : Hid (IR w4 P (List.replicate (m + c) z ++ List.replicate (N - (m + c)) 0)) := by
          have h := hg4.out
          rw [HSP.out] at h
          exact h
        have HB4 := hidIt hb4
        clear hg4 hb4 HPO HCN HFI HG0 HBd HSP
        go_simp
        go_roundw
        case rel => exact ⟨_, _, _, _, _, _, _, _, _, _, _, _, _, _, ⟨m + c, by go_num, by omega, by omega, HR4.out, HB4.out⟩, rfl⟩
        case measure => simp [intOf, Act.put]; omega
      · obtain rfl : m = N := by omega
        have hmI : ¬ (m : Int) < (m : Int) := by omega
        have HE : Hid (IR wr P (List.replicate m z)) := by
          have h := HR.out
          rwa [Nat.sub_self, List.replicate_zero, List.append_nil] at h
        go_wp2_with fail
        go_ret
        exact ⟨P, rfl, HBP.out, HE.out, HB.out⟩
end Go.Proofs.YtfiaoibfejginaaDoor
