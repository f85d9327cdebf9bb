/- The reference's Reverse, for every graph. -/
import Derived.Test.YtcelijjohcfhkaaDoorG0R
import Derived.Test.YtcelijjohcfhkaaDoorG0I
import Derived.Test.YtcelijjohcfhkaaDoorG1D
namespace Go.Proofs.YtcelijjohcfhkaaDoor
set_option linter.unusedVariables false
set_option linter.unusedSimpArgs false
open Go Go.RowKit Go.Sort

theorem revL_up (ps : List (Int × Int)) (k : Nat) : revL (k + 1) ps = revL k ps ++ (inL ps (k : Int)).map fun j => ((k : Int), j) := by
  unfold revL
  rw [List.range_succ, List.flatMap_append]
  simp
theorem revL_le (ps : List (Int × Int)) : ∀ k, (revL k ps).length ≤ k * ps.length
  | 0 => by simp [revL]
  | k + 1 => by
    rw [revL_up, List.length_append, List.length_map, Nat.succ_mul]
    have := revL_le ps k
    have := inL_len ps (k : Int)
    omega

end Go.Proofs.YtcelijjohcfhkaaDoor
