/- What Grow and Shrink return is least, and greatest. -/
import Derived.Test.YtihmdnbeonefcaaDoorN1M
namespace Go.Proofs.YtihmdnbeonefcaaDoor
set_option linter.unusedVariables false
set_option linter.unusedSimpArgs false
open Go Go.RowKit Go.Sort

theorem growE_zero {N : Nat} {ps : List (Int × Int)} {x : List Int} (hs : setB N x = true) : (growE N ps x == 0) = (setB N x && admX N ps (memB x)) := by
  unfold growE
  rw [hs, if_pos rfl, Bool.true_and]
  cases admX N ps (memB x) <;> rfl
theorem shrinkE_zero {N : Nat} {ps : List (Int × Int)} {x : List Int} (hs : setB N x = true) : (shrinkE N ps x == 0) = (setB N x && cfX ps (memB x)) := by
  unfold shrinkE
  rw [hs, if_pos rfl, Bool.true_and]
  cases cfX ps (memB x) <;> rfl
theorem subL_to {N : Nat} {x : List Int} {Y : Nat → Bool} (hs : setB N x = true) : subL x (setL N Y) = subX N (memB x) Y := by
  conv => lhs; rw [setB_eq hs]
  rw [subL_set]
theorem subL_from {N : Nat} {x : List Int} {Y : Nat → Bool} (hs : setB N x = true) : subL (setL N Y) x = subX N Y (memB x) := by
  conv => lhs; arg 2; rw [setB_eq hs]
  rw [subL_set]
theorem subL_both {N : Nat} {x y : List Int} (hs : setB N x = true) (ht : setB N y = true) : subL x y = subX N (memB x) (memB y) := by
  conv => lhs; arg 2; rw [setB_eq ht]
  exact subL_to hs
section
variable {N : Nat} {ps : List (Int × Int)} (hix : ∀ p ∈ ps, (0 ≤ p.1 ∧ p.1 < (N : Int)) ∧ (0 ≤ p.2 ∧ p.2 < (N : Int)))
include hix
theorem comp_set (X : Nat → Bool) : compX N ps (memB (setL N X)) = compX N ps X := by
  unfold compX
  rw [cf_set hix]
  congr 1
  congr 1
  · rw [Bool.eq_iff_iff, subX_iff, subX_iff]
    constructor
    · intro h i hi hx
      rw [← dfX_congr hix memB_back]
      exact h i hi (by rw [memB_back i hi]; exact hx)
    · intro h i hi hx
      rw [dfX_congr hix memB_back]
      exact h i hi (by rw [← memB_back (N := N) (X := X) i hi]; exact hx)
  · rw [Bool.eq_iff_iff, subX_iff, subX_iff]
    constructor
    · intro h i hi hx
      rw [← memB_back (N := N) (X := X) i hi]
      exact h i hi (by rw [dfX_congr hix memB_back]; exact hx)
    · intro h i hi hx
      rw [memB_back i hi]
      exact h i hi (by rw [← dfX_congr hix memB_back (X := memB (setL N X))]; exact hx)
theorem grow_ok {x a : List Int} (hs : setB N x = true) (h : GrowS N ps x a) (he : growE N ps x = 0) :
    (setB N a && compX N ps (memB a)) = true ∧ subL x a = true ∧ ∀ y, setB N y = true → (setB N y && compX N ps (memB y)) = true → subL x y = true → subL a y = true := by
  obtain ⟨Z, hz, rfl⟩ := h.good he
  refine ⟨?_, ?_, fun y hy hc hxy => ?_⟩
  · rw [setB_setL, comp_set hix, Bool.true_and]
    exact compX_iff.2 ⟨hz.cf, hz.def_, hz.all_⟩
  · rw [subL_to hs, subX_iff]
    exact hz.sup
  · rw [subL_from hy, subX_iff]
    rw [subL_both hs hy, subX_iff] at hxy
    rw [hy, Bool.true_and] at hc
    exact hz.least _ hxy (compX_iff.1 hc).2.2
theorem shrink_ok {x b : List Int} (hs : setB N x = true) (h : ShrinkS N ps x b) (he : shrinkE N ps x = 0) :
    (setB N b && admX N ps (memB b)) = true ∧ subL b x = true ∧ ∀ y, setB N y = true → subL y x = true → (setB N y && admX N ps (memB y)) = true → subL y b = true := by
  obtain ⟨Z, hz, rfl⟩ := h.good he
  have hcf : cfX ps (memB x) = true := by
    have := shrinkE_zero (ps := ps) hs
    rw [he, hs, Bool.true_and] at this
    exact this.symm
  refine ⟨?_, ?_, fun y hy hxy hc => ?_⟩
  · rw [setB_setL, adm_set hix, Bool.true_and]
    exact admX_iff.2 ⟨cfX_sub hix hz.sub hcf, hz.def_⟩
  · rw [subL_from hs, subX_iff]
    exact hz.sub
  · rw [subL_to hy, subX_iff]
    rw [subL_both hy hs, subX_iff] at hxy
    rw [hy, Bool.true_and] at hc
    exact hz.most _ hxy (admX_iff.1 hc).2
end
theorem GrowS.set {N : Nat} {ps : List (Int × Int)} {x a : List Int} (h : GrowS N ps x a) : setB N a = true := by
  by_cases e : growE N ps x = 0
  · obtain ⟨Z, -, rfl⟩ := h.good e
    exact setB_setL N Z
  · rw [h.bad e]
    exact setB_iff.2 ⟨fun z hz => (by cases hz), List.Pairwise.nil⟩
theorem ShrinkS.set {N : Nat} {ps : List (Int × Int)} {x a : List Int} (h : ShrinkS N ps x a) : setB N a = true := by
  by_cases e : shrinkE N ps x = 0
  · obtain ⟨Z, -, rfl⟩ := h.good e
    exact setB_setL N Z
  · rw [h.bad e]
    exact setB_iff.2 ⟨fun z hz => (by cases hz), List.Pairwise.nil⟩
end Go.Proofs.YtihmdnbeonefcaaDoor
