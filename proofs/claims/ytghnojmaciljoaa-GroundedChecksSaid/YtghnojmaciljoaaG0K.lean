/- The sets of the nodes that each node attacks. -/
import Derived.Test.YtghnojmaciljoaaG0I
import Derived.BigRegion
namespace Go.Proofs.Ytghnojmaciljoaa
set_option linter.unusedVariables false
set_option linter.unusedSimpArgs false
open Go Go.RowKit Go.Sort

/-- A valid graph. -/
structure GOk (n : Int) (ps : List (Int × Int)) : Prop where
  n0 : 0 ≤ n
  n40 : n ≤ 40
  ix : ∀ p ∈ ps, (0 ≤ p.1 ∧ p.1 < n) ∧ (0 ≤ p.2 ∧ p.2 < n)
  up : ps.Pairwise fun a b => geP a b = false

def geO (p : Option (Int × Int)) (x : Int × Int) : Bool := match p with | none => false | some y => geP y x
theorem valFrom_cons (n : Int) (p : Option (Int × Int)) (x : Int × Int) (r : List (Int × Int)) : valFrom n p (x :: r) = if (ixB x.1 n && ixB x.2 n) = false then 1 else if geO p x = true then 8 else valFrom n (some x) r := by
  cases p <;> rfl
theorem valFrom_ok (n : Int) : ∀ (xs : List (Int × Int)) (p : Option (Int × Int)), valFrom n p xs = 0 → (∀ x ∈ xs, (0 ≤ x.1 ∧ x.1 < n) ∧ (0 ≤ x.2 ∧ x.2 < n)) ∧ xs.Pairwise (fun a b => geP a b = false) ∧ ∀ y, p = some y → ∀ x ∈ xs, geP y x = false
  | [], p, _ => ⟨fun x h => (by cases h), List.Pairwise.nil, fun y _ x h => (by cases h)⟩
  | x :: r, p, h => by
    rw [valFrom_cons] at h
    by_cases h1 : (ixB x.1 n && ixB x.2 n) = false
    · rw [if_pos h1] at h; cases h
    rw [if_neg h1] at h
    by_cases h2 : geO p x = true
    · rw [if_pos h2] at h; cases h
    rw [if_neg h2] at h
    obtain ⟨i1, i2, i3⟩ := valFrom_ok n r (some x) h
    have h1' : ixB x.1 n = true ∧ ixB x.2 n = true := by simpa using h1
    refine ⟨fun y hy => ?_, List.pairwise_cons.2 ⟨fun y hy => i3 x rfl y hy, i2⟩, fun y e z hz => ?_⟩
    · rcases List.mem_cons.1 hy with rfl | hy
      · exact ⟨ixB_true h1'.1, ixB_true h1'.2⟩
      · exact i1 y hy
    · subst e
      have h3 : geP y x = false := by simpa [geO] using h2
      rcases List.mem_cons.1 hz with rfl | hz
      · exact h3
      · have h4 := i3 x rfl z hz
        unfold geP at *
        simp only [decide_eq_false_iff_not] at *
        omega
theorem valE_ok {n : Int} {xs : List (Int × Int)} (h : valE n xs = 0) : GOk n xs := by
  unfold valE at h
  by_cases hn : n < 0 ∨ 40 < n
  · rw [if_pos hn] at h; cases h
  rw [if_neg hn] at h
  obtain ⟨h1, h2, -⟩ := valFrom_ok n xs none h
  exact ⟨by omega, by omega, h1, h2⟩
theorem v_ok (n : Int) (xs : List (Int × Int)) : GOk (vN n xs) (vL n xs) := by
  unfold vN vL
  by_cases h : valE n xs = 0
  · rw [if_pos h, if_pos h]; exact valE_ok h
  · rw [if_neg h, if_neg h]; exact ⟨by decide, by decide, fun x h => (by cases h), List.Pairwise.nil⟩

end Go.Proofs.Ytghnojmaciljoaa
