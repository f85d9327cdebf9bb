/- LessCommitted: the program's and the reference's, for any lists. -/
import Derived.Test.YtihmdnbeonefcaaDoorG0A
namespace Go.Proofs.YtihmdnbeonefcaaDoor
set_option linter.unusedVariables false
set_option linter.unusedSimpArgs false
open Go Go.RowKit Go.Sort

/-- Is the first list less committed than the second one? -/
def lessF : List Int → List Int → Bool
  | [], [] => true
  | x :: r, y :: s => (!(decide (x = 1) || decide (x = 2)) || decide (y = x)) && lessF r s
  | [], _ :: _ => false
  | _ :: _, [] => false
theorem lessF_len : ∀ {xs ys : List Int}, xs.length ≠ ys.length → lessF xs ys = false
  | [], [], h => absurd rfl h
  | [], _ :: _, _ => rfl
  | _ :: _, [], _ => rfl
  | x :: r, y :: s, h => by
    have ih : lessF r s = false := lessF_len (fun e => h (by simp [e]))
    show (_ && lessF r s) = false
    rw [ih, Bool.and_false]
theorem lessF_step {xs ys : List Int} {k : Nat} (h1 : k < xs.length) (h2 : k < ys.length) : lessF (xs.drop k) (ys.drop k) = ((!(decide (xs[k] = 1) || decide (xs[k] = 2)) || decide (ys[k] = xs[k])) && lessF (xs.drop (k + 1)) (ys.drop (k + 1))) := by
  rw [List.drop_eq_getElem_cons h1, List.drop_eq_getElem_cons h2]
  rfl
theorem lessF_end {xs ys : List Int} {k : Nat} (h1 : k = xs.length) (h2 : xs.length = ys.length) : lessF (xs.drop k) (ys.drop k) = true := by
  rw [List.drop_of_length_le (by omega), List.drop_of_length_le (by omega)]
  rfl
theorem lessF_iff : ∀ {xs ys : List Int}, lessF xs ys = true ↔ xs.length = ys.length ∧ ∀ i (h1 : i < xs.length) (h2 : i < ys.length), xs[i] = 1 ∨ xs[i] = 2 → ys[i] = xs[i]
  | [], [] => ⟨fun _ => ⟨rfl, fun i h => by simp at h⟩, fun _ => rfl⟩
  | [], _ :: _ => ⟨fun h => (by cases h), fun h => (by simp at h)⟩
  | _ :: _, [] => ⟨fun h => (by cases h), fun h => (by simp at h)⟩
  | x :: r, y :: s => by
    show ((!(decide (x = 1) || decide (x = 2)) || decide (y = x)) && lessF r s) = true ↔ _
    rw [Bool.and_eq_true, lessF_iff]
    constructor
    · rintro ⟨h1, h2, h3⟩
      refine ⟨by simp [h2], fun i => ?_⟩
      cases i with
      | zero =>
        intro _ _ h
        show y = x
        have h : x = 1 ∨ x = 2 := h
        rcases h with h | h <;> simpa [h] using h1
      | succ i => exact fun a b => h3 i (by simpa using a) (by simpa using b)
    · rintro ⟨h2, h3⟩
      refine ⟨?_, by simpa using h2, fun i a b => h3 (i + 1) (by simpa using a) (by simpa using b)⟩
      have h0 : x = 1 ∨ x = 2 → y = x := h3 0 (by simp) (by simp)
      by_cases e : x = 1 ∨ x = 2
      · simp [h0 e]
      · simp only [not_or] at e
        simp [e.1, e.2]

end Go.Proofs.YtihmdnbeonefcaaDoor
