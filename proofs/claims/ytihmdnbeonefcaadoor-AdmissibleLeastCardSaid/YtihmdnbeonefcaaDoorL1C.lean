/- Meet and Compare: the program's and the reference's, for any lists. -/
import Derived.Test.YtihmdnbeonefcaaDoorL1B
import Derived.Test.YtihmdnbeonefcaaDoorShelf
namespace Go.Proofs.YtihmdnbeonefcaaDoor
set_option linter.unusedVariables false
set_option linter.unusedSimpArgs false
open Go Go.RowKit Go.Sort

/-- What two lists have in common. -/
def meetF : List Int → List Int → List Int
  | x :: r, y :: s => (if x = y then x else 3) :: meetF r s
  | _, _ => []
theorem meetF_len : ∀ (xs ys : List Int), (meetF xs ys).length = min xs.length ys.length
  | [], _ => by simp [meetF]
  | _ :: _, [] => by simp [meetF]
  | x :: r, y :: s => by
    show (meetF r s).length + 1 = _
    rw [meetF_len r s]
    simp only [List.length_cons]
    omega
theorem meetF_get : ∀ (xs ys : List Int) (i : Nat) (h : i < (meetF xs ys).length) (h1 : i < xs.length) (h2 : i < ys.length), (meetF xs ys)[i] = if xs[i] = ys[i] then xs[i] else 3
  | [], _, i, h, h1, _ => by simp at h1
  | _ :: _, [], i, h, _, h2 => by simp at h2
  | x :: r, y :: s, 0, h, h1, h2 => rfl
  | x :: r, y :: s, i + 1, h, h1, h2 => meetF_get r s i (by simpa [meetF] using h) (by simpa using h1) (by simpa using h2)
theorem meetF_take {xs ys : List Int} {k : Nat} (h1 : k < xs.length) (h2 : k < ys.length) : (meetF xs ys).take (k + 1) = (meetF xs ys).take k ++ [if xs[k] = ys[k] then xs[k] else 3] := by
  have hk : k < (meetF xs ys).length := by rw [meetF_len]; omega
  rw [List.take_succ_eq_append_getElem hk, meetF_get xs ys k hk h1 h2]

/-- The lists compared: -1, 0 or 1. -/
def cmpF : List Int → List Int → Int
  | [], [] => 0
  | [], _ :: _ => -1
  | _ :: _, [] => 1
  | x :: r, y :: s => if x < y then -1 else if y < x then 1 else cmpF r s
theorem cmpF_step {xs ys : List Int} {k : Nat} (h1 : k < xs.length) (h2 : k < ys.length) : cmpF (xs.drop k) (ys.drop k) = if xs[k] < ys[k] then -1 else if ys[k] < xs[k] then 1 else cmpF (xs.drop (k + 1)) (ys.drop (k + 1)) := by
  rw [List.drop_eq_getElem_cons h1, List.drop_eq_getElem_cons h2]
  rfl
theorem cmpF_end1 {xs ys : List Int} {k : Nat} (h1 : k = xs.length) (h2 : k < ys.length) : cmpF (xs.drop k) (ys.drop k) = -1 := by
  rw [List.drop_of_length_le (show xs.length ≤ k by omega), List.drop_eq_getElem_cons h2]
  rfl
theorem cmpF_end2 {xs ys : List Int} {k : Nat} (h1 : k < xs.length) (h2 : k = ys.length) : cmpF (xs.drop k) (ys.drop k) = 1 := by
  rw [List.drop_of_length_le (show ys.length ≤ k by omega), List.drop_eq_getElem_cons h1]
  rfl
theorem cmpF_end3 {xs ys : List Int} {k : Nat} (h1 : k = xs.length) (h2 : k = ys.length) : cmpF (xs.drop k) (ys.drop k) = 0 := by
  rw [List.drop_of_length_le (show xs.length ≤ k by omega), List.drop_of_length_le (show ys.length ≤ k by omega)]
  rfl
theorem cmpF_bd : ∀ (xs ys : List Int), -1 ≤ cmpF xs ys ∧ cmpF xs ys ≤ 1
  | [], [] => ⟨by decide, by decide⟩
  | [], _ :: _ => ⟨by show (-1 : Int) ≤ -1; decide, by show (-1 : Int) ≤ 1; decide⟩
  | _ :: _, [] => ⟨by show (-1 : Int) ≤ 1; decide, by show (1 : Int) ≤ 1; decide⟩
  | x :: r, y :: s => by
    have ih := cmpF_bd r s
    show -1 ≤ (if x < y then -1 else if y < x then 1 else cmpF r s) ∧ (if x < y then -1 else if y < x then 1 else cmpF r s) ≤ 1
    split
    · omega
    · split
      · omega
      · exact ih
theorem cmpF_neg : ∀ (xs ys : List Int), cmpF ys xs = - cmpF xs ys
  | [], [] => rfl
  | [], _ :: _ => rfl
  | _ :: _, [] => rfl
  | x :: r, y :: s => by
    have ih := cmpF_neg r s
    show (if y < x then -1 else if x < y then 1 else cmpF s r) = - (if x < y then -1 else if y < x then 1 else cmpF r s)
    by_cases h1 : x < y
    · rw [if_neg (by omega), if_pos h1, if_pos h1]; rfl
    · by_cases h2 : y < x
      · rw [if_pos h2, if_neg h1, if_pos h2]
      · rw [if_neg h2, if_neg h1, if_neg h1, if_neg h2, ih]

end Go.Proofs.YtihmdnbeonefcaaDoor
