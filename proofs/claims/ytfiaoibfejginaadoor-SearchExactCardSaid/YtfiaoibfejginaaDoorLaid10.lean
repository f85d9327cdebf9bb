/- The library's table of trailing zeros: what the row's condition gives the walks, and the world of the witness. -/
import Derived.Test.YtfiaoibfejginaaDoorG0T
import Derived.Test.YtfiaoibfejginaaDoorCards
import Derived.Test.YtfiaoibfejginaaDoorTie
import Derived.ProofKit
import Derived.OpenShut
import Derived.Deep.DeepHandedRow
import Derived.Lib.LaidTab
namespace Go.Proofs.YtfiaoibfejginaaDoor
set_option linter.unusedVariables false
set_option linter.unusedSimpArgs false
open Go.ChangeShapes Go.WideShapes Go.ChangeAt Go.RowKit

theorem gBruijn : Tryd.prog.globalNamed "math/bits.deBruijn64tab" = some 0 := by kernel_rfl
theorem gBruijnType : (Tryd.prog.globals[(0 : Nat)]?).map (·.type) = some 97 := by kernel_rfl
theorem cellsArr64 : Tryd.prog.cellsOf 97 = 64 := by kernel_rfl
theorem cellsU8 : Tryd.prog.cellsOf 5 = 1 := by kernel_rfl

/-- What the row's list gives. -/
theorem tab_of_laid {W : World} (h : laidMetH Tryd.prog [("math/bits.deBruijn64tab", Rows.laid_math_bits_deBruijn64tab)] W) : Tab W := by
  have h2 : laidMet Tryd.prog [("math/bits.deBruijn64tab", Lib.tabData .u8 (Lib.deBruijn64tab.map fun (n : Nat) => (n : Int)))] W := h
  have hT := Lib.tabIs_of_head gBruijn gBruijnType Tryd.underlying97 Tryd.underlying5 cellsU8 cellsArr64 h2
  intro j hj
  have hc := hT.cell gBruijn j (by rw [List.length_map]; exact hj)
  rw [hc, List.getD_eq_getElem?_getD, List.getD_eq_getElem?_getD, List.getElem?_map, List.getElem?_eq_getElem hj]
  rfl

/-- A world for the witness: the settled one, the table holding what its initialiser lays. -/
noncomputable def laidWorld (os : Os) : World :=
  { World.holding Tryd.prog os ⟨#[], #[], []⟩ with heap := (World.holding Tryd.prog os ⟨#[], #[], []⟩).heap.modify 0 fun
      | .cells _ t frozen => .cells (Lib.deBruijn64tab.map fun (n : Nat) => Value.int .u8 (n : Int)).toArray t frozen
      | o => o }
end Go.Proofs.YtfiaoibfejginaaDoor
