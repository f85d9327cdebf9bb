/- keep.Labels: a labelling out of a reader. -/
import Derived.Test.YtfiaoibfejginaaDoorG1I
namespace Go.Proofs.YtfiaoibfejginaaDoor
set_option linter.unusedVariables false
set_option linter.unusedSimpArgs false
open Go Go.RowKit Go.Sort

/-- Every element is a label. -/
def LabOk (l : List Int) : Prop := ∀ x ∈ l, x = 1 ∨ x = 2 ∨ x = 3
theorem LabOk.snoc {l : List Int} {x : Int} (h : LabOk l) (hx : x = 1 ∨ x = 2 ∨ x = 3) : LabOk (l ++ [x]) := by
  intro y hy
  rcases List.mem_append.1 hy with hy | hy
  · exact h y hy
  · rw [List.mem_singleton] at hy; subst hy; exact hx
/-- What a call that reads a labelling hands back. -/
def LabOut (w : World) (B b : Nat) (zs : List Int) (n : Nat) (e : Ending) (w' : World) : Prop :=
  ∃ (l : List Int) (a : Option Addr) (c k : Nat), e = .returned (.slice a n c) ∧ l.length = n ∧ LabOk l ∧ OwnI w' w.heap.size (.slice a n c) l ∧ SrcAt w' B b zs k ∧ w.grownBy w' (some b)

end Go.Proofs.YtfiaoibfejginaaDoor
