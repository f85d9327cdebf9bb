/- Meet and Compare: the program's and the reference's, for any lists. -/
import Derived.Test.YtbahfcefplgigaaL1B
import Derived.Test.YtbahfcefplgigaaShelf
namespace Go.Proofs.Ytbahfcefplgigaa
set_option linter.unusedVariables false
set_option linter.unusedSimpArgs false
open Go Go.RowKit Go.Sort

/-- What two lists have in common. -/
def meetF : List Int → List Int → List Int
  | x :: r, y :: s => (if x = y then x else 3) :: meetF r s
  | _, _ => []
theorem meetF_len : ∀ (xs ys : List Int), (meetF xs ys).length = min xs.length ys.length
  | [], _ => by simp [meetF]
  | _ :: _, [] => by simp [meetF]
  | x :: r, y :: s => by
    show (meetF r s).length + 1 = _
    rw [meetF_len r s]
    simp only [List.length_cons]
    omega
theorem meetF_get : ∀ (xs ys : List Int) (i : Nat) (h : i < (meetF xs ys).length) (h1 : i < xs.length) (h2 : i < ys.length), (meetF xs ys)[i] = if xs[i] = ys[i] then xs[i] else 3
  | [], _, i, h, h1, _ => by simp at h1
  | _ :: _, [], i, h, _, h2 => by simp at h2
  | x :: r, y :: s, 0, h, h1, h2 => rfl
  | x :: r, y :: s, i + 1, h, h1, h2 => meetF_get r s i (by simpa [meetF] using h) (by simpa using h1) (by simpa using h2)
theorem meetF_take {xs ys : List Int} {k : Nat} (h1 : k < xs.length) (h2 : k < ys.length) : (meetF xs ys).take (k + 1) = (meetF xs ys).take k ++ [if xs[k] = ys[k] then xs[k] else 3] := by
  have hk : k < (meetF xs ys).length := by rw [meetF_len]; omega
  rw [List.take_succ_eq_append_getElem hk, meetF_get xs ys k hk h1 h2]

/-- The lists compared: -1, 0 or 1. -/
def cmpF : List Int → List Int → Int
  | [], [] => 0
  | [], _ :: _ => -1
  | _ :: _, [] => 1
  | x :: r, y :: s => if x < y then -1 else if y < x then 1 else cmpF r s
theorem cmpF_step {xs ys : List Int} {k : Nat} (h1 : k < xs.length) (h2 : k < ys.length) : cmpF (xs.drop k) (ys.drop k) = if xs[k] < ys[k] then -1 else if ys[k] < xs[k] then 1 else cmpF (xs.drop (k + 1)) (ys.drop (k + 1)) := by
  rw [List.drop_eq_getElem_cons h1, List.drop_eq_getElem_cons h2]
  rfl
theorem cmpF_end1 {xs ys : List Int} {k : Nat} (h1 : k = xs.length) (h2 : k < ys.length) : cmpF (xs.drop k) (ys.drop k) = -1 := by
  rw [List.drop_of_length_le (show xs.length ≤ k by omega), List.drop_eq_getElem_cons h2]
  rfl
theorem cmpF_end2 {xs ys : List Int} {k : Nat} (h1 : k < xs.length) (h2 : k = ys.length) : cmpF (xs.drop k) (ys.drop k) = 1 := by
  rw [List.drop_of_length_le (show ys.length ≤ k by omega), List.drop_eq_getElem_cons h1]
  rfl
theorem cmpF_end3 {xs ys : List Int} {k : Nat} (h1 : k = xs.length) (h2 : k = ys.length) : cmpF (xs.drop k) (ys.drop k) = 0 := by
  rw [List.drop_of_length_le (show xs.length ≤ k by omega), List.drop_of_length_le (show ys.length ≤ k by omega)]
  rfl
theorem cmpF_bd : ∀ (xs ys : List Int), -1 ≤ cmpF xs ys ∧ cmpF xs ys ≤ 1
  | [], [] => ⟨by decide, by decide⟩
  | [], _ :: _ => ⟨by show (-1 : Int) ≤ -1; decide, by show (-1 : Int) ≤ 1; decide⟩
  | _ :: _, [] => ⟨by show (-1 : Int) ≤ 1; decide, by show (1 : Int) ≤ 1; decide⟩
  | x :: r, y :: s => by
    have ih := cmpF_bd r s
    show -1 ≤ (if x < y then -1 else if y < x then 1 else cmpF r s) ∧ (if x < y then -1 else if y < x then 1 else cmpF r s) ≤ 1
    split
    · omega
    · split
      · omega
      · exact ih
theorem cmpF_neg : ∀ (xs ys : List Int), cmpF ys xs = - cmpF xs ys
  | [], [] => rfl
  | [], _ :: _ => rfl
  | _ :: _, [] => rfl
  | x :: r, y :: s => by
    have ih := cmpF_neg r s
    show (if y < x then -1 else if x < y then 1 else cmpF s r) = - (if x < y then -1 else if y < x then 1 else cmpF r s)
    by_cases h1 : x < y
    · rw [if_neg (by omega), if_pos h1, if_pos h1]; rfl
    · by_cases h2 : y < x
      · rw [if_pos h2, if_neg h1, if_pos h2]
      · rw [if_neg h2, if_neg h1, if_neg h1, if_neg h2, ih]

set_option maxRecDepth 100000 in
set_option maxHeartbeats 1000000 in
/-- slices.Compare of two lists of ints. -/
theorem slCompareI_any (v1 v2 : Value) (xs ys : List Int) (w : World) (h1 : IL w v1 xs) (h2 : IL w v2 ys) (hn : xs.length ≤ 1000000) (hm : ys.length ≤ 1000000) :
    Calls Try.prog 47 #[v1, v2] w fun e w' => e = .returned (.int .i64 (cmpF xs ys)) ∧ Below w.heap.size w w' := by
  obtain ⟨a1, c1, rfl, k1⟩ := h1.form
  obtain ⟨a2, c2, rfl, k2⟩ := h2.form
  have K1 := hidIt k1
  have K2 := hidIt k2
  clear k1 k2 h1 h2
  have HV : Hid (cmpF xs ys = cmpF (xs.drop 0) (ys.drop 0)) := (rfl : _ = _)
  generalize cmpF xs ys = V at *
  obtain ⟨L, hL⟩ : ∃ L, L = ys.length := ⟨_, rfl⟩
  have HY := hidIt hL
  rw [← hL] at hm ⊢
  obtain ⟨M, hM⟩ : ∃ M, M = xs.length := ⟨_, rfl⟩
  have HX := hidIt hM
  rw [← hM] at hn ⊢
  clear hL hM
  go_enter Try.func47, Try.ntmps47
  go_wp2_with fail
  go_loopw [5, 6, 7, 8, 11] (fun _ _ _ _ i wr => ∃ k : Nat, k ≤ M ∧ k ≤ L ∧ i = .int .i64 k ∧ wr = w ∧ Hid (V = cmpF (xs.drop k) (ys.drop k))) (fun _ _ _ _ i _ => M - (intOf i).toNat)
  case atStart => exact ⟨0, Nat.zero_le _, Nat.zero_le _, (by first | rfl | trivial), (by first | rfl | trivial), HV.out⟩
  case round =>
    clear HV
    obtain ⟨k, hk, hkl, rfl, rfl, HT⟩ := hrel
    have hkI0 : (0 : Int) ≤ (k : Int) := by omega
    by_cases hlt : k < M
    · have hkI : (k : Int) < (M : Int) := by omega
      have h1x : k < xs.length := by rw [← HX.out]; exact hlt
      obtain ⟨b1, o1, rfl, l1, p0⟩ := K1.out k h1x
      by_cases hle : k < L
      rotate_left
      · obtain rfl : k = L := by omega
        have HE : Hid (V = 1) := HT.out.trans (cmpF_end2 h1x HY.out)
        generalize xs[k] = x at *
        clear h1x HT
        have hge : (k : Int) ≤ (k : Int) := Int.le_refl _
        go_wp2_with fail
        go_ret
        exact ⟨ret_int HE.out.symm, Below.refl _ _⟩
      have hkL : (k : Int) < (L : Int) := by omega
      have hkL2 : ¬ (L : Int) ≤ (k : Int) := by omega
      have h1y : k < ys.length := by rw [← HY.out]; exact hle
      obtain ⟨b2, o2, rfl, l2, q0⟩ := K2.out k h1y
      have HS := hidIt (HT.out.trans (cmpF_step h1x h1y))
      generalize xs[k] = x at *
      generalize ys[k] = y at *
      clear h1x h1y HT
      by_cases hlt1 : x < y
      · have HE : Hid (V = -1) := by show _ = _; rw [HS.out, if_pos hlt1]
        have HC : Hid (Lib.compareInt x y = -1) := by show _ = _; unfold Lib.compareInt; simp [hlt1]
        clear hlt1 HS
        go_wp2_with fail
        refine (Try.cmp_Compare_int x y _).mono ?_
        rw [HC.out]
        rintro e w' ⟨rfl, rfl⟩
        go_wp2_with fail
        go_ret
        exact ⟨ret_int HE.out.symm, Below.refl _ _⟩
      · by_cases hlt2 : y < x
        · have HE : Hid (V = 1) := by show _ = _; rw [HS.out, if_neg hlt1, if_pos hlt2]
          have HC : Hid (Lib.compareInt x y = 1) := by show _ = _; unfold Lib.compareInt; simp [hlt1, hlt2]
          clear hlt1 hlt2 HS
          go_wp2_with fail
          refine (Try.cmp_Compare_int x y _).mono ?_
          rw [HC.out]
          rintro e w' ⟨rfl, rfl⟩
          go_wp2_with fail
          go_ret
          exact ⟨ret_int HE.out.symm, Below.refl _ _⟩
        · have HE : Hid (V = cmpF (xs.drop (k + 1)) (ys.drop (k + 1))) := by show _ = _; rw [HS.out, if_neg hlt1, if_neg hlt2]
          have HC : Hid (Lib.compareInt x y = 0) := by show _ = _; unfold Lib.compareInt; simp [hlt1, hlt2]
          clear hlt1 hlt2 HS
          go_wp2_with fail
          refine (Try.cmp_Compare_int x y _).mono ?_
          rw [HC.out]
          rintro e w' ⟨rfl, rfl⟩
          go_wp2_with fail
          go_roundw
          case rel => exact ⟨k + 1, by omega, by omega, by go_num, (by first | rfl | trivial), HE.out⟩
          case measure => simp [intOf]; omega
    · obtain rfl : k = M := by omega
      have hkI : ¬ (k : Int) < (k : Int) := by omega
      by_cases hle : k < L
      · have hkL : (k : Int) < (L : Int) := by omega
        have HE : Hid (V = -1) := HT.out.trans (cmpF_end1 HX.out (by rw [← HY.out]; exact hle))
        go_wp2_with fail
        go_ret
        exact ⟨ret_int HE.out.symm, Below.refl _ _⟩
      · obtain rfl : k = L := by omega
        have HE : Hid (V = 0) := HT.out.trans (cmpF_end3 HX.out HY.out)
        go_wp2_with fail
        go_ret
        exact ⟨ret_int HE.out.symm, Below.refl _ _⟩

set_option maxRecDepth 100000 in
set_option maxHeartbeats 1000000 in
theorem lCompare_any (v1 v2 : Value) (xs ys : List Int) (w : World) (h1 : IL w v1 xs) (h2 : IL w v2 ys) (hn : xs.length ≤ 1000000) (hm : ys.length ≤ 1000000) :
    Calls Try.prog 30 #[v1, v2] w fun e w' => e = .returned (.int .i64 (cmpF xs ys)) ∧ Below w.heap.size w w' := by
  have H1 := hidIt h1
  have H2 := hidIt h2
  obtain ⟨a1, c1, rfl, -⟩ := h1.form
  obtain ⟨a2, c2, rfl, -⟩ := h2.form
  clear h1 h2
  go_enter Try.func30, Try.ntmps30
  go_wp2_with fail
  refine (slCompareI_any _ _ xs ys _ H1.out H2.out hn hm).mono ?_
  rintro e w' ⟨rfl, hb⟩
  have HB := hidIt hb
  go_wp2_with fail
  go_ret
  exact ⟨rfl, HB.out⟩
end Go.Proofs.Ytbahfcefplgigaa
