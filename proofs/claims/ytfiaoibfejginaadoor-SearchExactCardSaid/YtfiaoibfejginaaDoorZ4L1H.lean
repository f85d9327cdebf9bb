/- FromSet: the reference's. -/
import Derived.Test.YtfiaoibfejginaaDoorZ4L1G

namespace Go.Proofs.YtfiaoibfejginaaDoor
set_option linter.unusedVariables false
set_option linter.unusedSimpArgs false
open Go Go.RowKit Go.Sort

theorem inL_any (ps : List (Int × Int)) (i : Int) (f : Int → Bool) : (inL ps i).any f = ps.any fun p => p.2 == i && f p.1 := by
  unfold inL
  rw [List.any_map, List.any_filter]
  rfl
/-- The label of a node, as the reference finds it. -/
theorem labOf_in (ps : List (Int × Int)) (set : List Int) (i : Nat) : labOf ps set i = if decide ((i : Int) ∈ set) = true then 1 else if ((inL ps i).any fun k => decide (k ∈ set)) = true then 2 else 3 := by
  rw [inL_any]
  rfl
theorem fsF_take {N : Nat} {ps : List (Int × Int)} {set : List Int} {k : Nat} : fsF (k + 1) ps set = fsF k ps set ++ [labOf ps set k] := by
  unfold fsF fsR
  rw [List.range_succ, List.map_append]
  rfl
theorem any_stepI {zs : List Int} {k : Nat} (h : k < zs.length) (f : Int → Bool) : (zs.take (k + 1)).any f = ((zs.take k).any f || f zs[k]) := by
  rw [List.take_succ_eq_append_getElem h, List.any_append]
  simp

theorem owns_mono {w : World} {B C : Nat} {v : Value} {zs : List Int} (h : OwnI w C v zs) (hB : B ≤ C) : OwnI w B v zs := by
  refine ⟨h.1, ?_⟩
  rcases h.2 with h0 | ⟨g, cap, cur, hv, hB2, h2⟩
  · exact .inl h0
  · exact .inr ⟨g, cap, cur, hv, Nat.le_trans hB hB2, h2⟩
end Go.Proofs.YtfiaoibfejginaaDoor
