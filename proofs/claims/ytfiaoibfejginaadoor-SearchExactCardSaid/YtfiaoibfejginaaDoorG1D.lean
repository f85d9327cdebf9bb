/- Components: for every graph whose components the order's own search can list. -/
import Derived.Test.YtfiaoibfejginaaDoorG0K
namespace Go.Proofs.YtfiaoibfejginaaDoor
set_option linter.unusedVariables false
set_option linter.unusedSimpArgs false
open Go Go.RowKit Go.Sort

theorem valFrom_of : ∀ (xs : List (Int × Int)) (n : Int) (p : Option (Int × Int)), (∀ x ∈ xs, (0 ≤ x.1 ∧ x.1 < n) ∧ (0 ≤ x.2 ∧ x.2 < n)) → xs.Pairwise (fun a b => geP a b = false) → (∀ y, p = some y → ∀ x ∈ xs, geP y x = false) → valFrom n p xs = 0
  | [], n, p, _, _, _ => by cases p <;> rfl
  | x :: r, n, p, h1, h2, h3 => by
    rw [valFrom_cons]
    obtain ⟨⟨a1, a2⟩, a3, a4⟩ := h1 x (List.mem_cons_self ..)
    have e1 : (ixB x.1 n && ixB x.2 n) = true := by unfold ixB; simp; omega
    rw [if_neg (by rw [e1]; decide)]
    have e2 : geO p x = false := by
      cases p with
      | none => rfl
      | some y => exact h3 y rfl x (List.mem_cons_self ..)
    rw [if_neg (by rw [e2]; decide)]
    rw [List.pairwise_cons] at h2
    exact valFrom_of r n (some x) (fun y hy => h1 y (List.mem_cons_of_mem _ hy)) h2.2 (fun y e z hz => by injection e with e; subst e; exact h2.1 z hz)
theorem valE_of {n : Int} {ps : List (Int × Int)} (h : GOk n ps) : valE n ps = 0 := by
  unfold valE
  have h0 := h.n0
  have h1 := h.n40
  rw [if_neg (by omega)]
  exact valFrom_of ps n none h.ix h.up (fun y e => by cases e)
theorem vN_of {n : Int} {ps : List (Int × Int)} (h : GOk n ps) : vN n ps = n := by unfold vN; rw [if_pos (valE_of h)]
theorem vL_of {n : Int} {ps : List (Int × Int)} (h : GOk n ps) : vL n ps = ps := by unfold vL; rw [if_pos (valE_of h)]
namespace Own
end Own
end Go.Proofs.YtfiaoibfejginaaDoor
