/- Attackers, Attacked: the program's and the reference's, for every graph. -/
import Derived.Test.YtcelijjohcfhkaaDoorG0H
namespace Go.Proofs.YtcelijjohcfhkaaDoor
set_option linter.unusedVariables false
set_option linter.unusedSimpArgs false
open Go Go.RowKit Go.Sort

/-- Who attacks i; whom i attacks. -/
def inL (ps : List (Int × Int)) (i : Int) : List Int := (ps.filter fun p => p.2 == i).map (·.1)
def outL (ps : List (Int × Int)) (i : Int) : List Int := (ps.filter fun p => p.1 == i).map (·.2)
theorem inL_step {ps : List (Int × Int)} {k : Nat} (h : k < ps.length) (i : Int) : inL (ps.take (k + 1)) i = inL (ps.take k) i ++ if ps[k].2 == i then [ps[k].1] else [] := by
  unfold inL
  rw [List.take_succ_eq_append_getElem h, List.filter_append, List.map_append]
  cases hb : ps[k].2 == i <;> simp [hb]
theorem outL_step {ps : List (Int × Int)} {k : Nat} (h : k < ps.length) (i : Int) : outL (ps.take (k + 1)) i = outL (ps.take k) i ++ if ps[k].1 == i then [ps[k].2] else [] := by
  unfold outL
  rw [List.take_succ_eq_append_getElem h, List.filter_append, List.map_append]
  cases hb : ps[k].1 == i <;> simp [hb]
theorem inL_len (ps : List (Int × Int)) (i : Int) : (inL ps i).length ≤ ps.length := by
  unfold inL
  rw [List.length_map]
  exact List.length_filter_le _ _
theorem outL_len (ps : List (Int × Int)) (i : Int) : (outL ps i).length ≤ ps.length := by
  unfold outL
  rw [List.length_map]
  exact List.length_filter_le _ _

end Go.Proofs.YtcelijjohcfhkaaDoor
