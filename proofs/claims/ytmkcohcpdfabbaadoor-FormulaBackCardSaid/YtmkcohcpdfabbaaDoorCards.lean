/-
  DERIVED. GIVEN WITH THE SEED: THE CARDS: each row of YtmkcohcpdfabbaaDoorRows.lean that lists a variable, with what it lists TIED to the program's text (the seventh form; the later family's looks); each row that meets fmt, with fmt's text TOLD by the authors' own Lean function (tested against real Go, not proved from fmt's source: count such statements apart). THE CARD IS WHAT COUNTS. Prove the row's statement (the work); the ties are given (YtmkcohcpdfabbaaDoorTie.lean); close each card by the builder's one call (the guide's Derived/Test/ToyasCard.lean, 'card_holds'). Laid BY PROGRAM, IN A SANDBOX (cutbox-door.mjs). By AI agents, Wed Nov 11 2026. No macro, syntax, notation, axiom, sorry.
-/
import Derived.Test.YtmkcohcpdfabbaaDoorRows
import GoSem.ClaimSeven
namespace Go.Proofs.YtmkcohcpdfabbaaDoor
namespace Rows

/-- THE TIED CARD OF 'deliberationlaw02.FormulaTexts'. -/
def formulaTextsCard : Claim7 := { stood := { row := formulaTextsRow, standIns := [], harness := (true, "5fb91ce0805bef8ac369e52283aa0861b6c9d9e00f12889be71520d23115f081"), looks := false }, kinds := [], alts := [], laidByText := true, laidKinds := [.data], laidTests := true, laidLooks := .later }
def FormulaTextsCardSaid : Prop := Claim7.holds Tryd.pinned (.plain (OpenSpec.ofChange formulaTextsSpec)) formulaTextsCard

/-- THE TIED CARD OF 'deliberationlaw02.FormulaParses'. -/
def formulaParsesCard : Claim7 := { stood := { row := formulaParsesRow, standIns := [], harness := (true, "5fb91ce0805bef8ac369e52283aa0861b6c9d9e00f12889be71520d23115f081"), looks := false }, kinds := [], alts := [], laidByText := true, laidKinds := [.data], laidTests := true, laidLooks := .later }
def FormulaParsesCardSaid : Prop := Claim7.holds Tryd.pinned (.plain (OpenSpec.ofChange formulaParsesSpec)) formulaParsesCard

/-- THE TIED CARD OF 'deliberationlaw02.FormulaBack'. -/
def formulaBackCard : Claim7 := { stood := { row := formulaBackRow, standIns := [], harness := (true, "5fb91ce0805bef8ac369e52283aa0861b6c9d9e00f12889be71520d23115f081"), looks := false }, kinds := [], alts := [], laidByText := true, laidKinds := [.data], laidTests := true, laidLooks := .later }
def FormulaBackCardSaid : Prop := Claim7.holds Tryd.pinned (.plain (OpenSpec.ofChange formulaBackSpec)) formulaBackCard

/-- THE TIED CARD OF 'deliberationlaw02.FormulaOwn'. -/
def formulaOwnCard : Claim7 := { stood := { row := formulaOwnRow, standIns := [], harness := (true, "5fb91ce0805bef8ac369e52283aa0861b6c9d9e00f12889be71520d23115f081"), looks := false }, kinds := [], alts := [], laidByText := true, laidKinds := [.data], laidTests := true, laidLooks := .later }
def FormulaOwnCardSaid : Prop := Claim7.holds Tryd.pinned (.plain (OpenSpec.ofChange formulaOwnSpec)) formulaOwnCard

/-- THE TIED CARD OF 'deliberationlaw03.WorldBack'. -/
def worldBackCard : Claim7 := { stood := { row := worldBackRow, standIns := [], harness := (true, "5fb91ce0805bef8ac369e52283aa0861b6c9d9e00f12889be71520d23115f081"), looks := false }, kinds := [], alts := [], laidByText := true, laidKinds := [.data], laidTests := true, laidLooks := .later }
def WorldBackCardSaid : Prop := Claim7.holds Tryd.pinned (.plain (OpenSpec.ofChange worldBackSpec)) worldBackCard

/-- THE TIED CARD OF 'deliberationlaw03.WorldAlgebra'. -/
def worldAlgebraCard : Claim7 := { stood := { row := worldAlgebraRow, standIns := [], harness := (true, "5fb91ce0805bef8ac369e52283aa0861b6c9d9e00f12889be71520d23115f081"), looks := false }, kinds := [], alts := [], laidByText := true, laidKinds := [.data], laidTests := true, laidLooks := .later }
def WorldAlgebraCardSaid : Prop := Claim7.holds Tryd.pinned (.plain (OpenSpec.ofChange worldAlgebraSpec)) worldAlgebraCard

/-- THE TIED CARD OF 'deliberationlaw03.WorldForgets'. -/
def worldForgetsCard : Claim7 := { stood := { row := worldForgetsRow, standIns := [], harness := (true, "5fb91ce0805bef8ac369e52283aa0861b6c9d9e00f12889be71520d23115f081"), looks := false }, kinds := [], alts := [], laidByText := true, laidKinds := [.data], laidTests := true, laidLooks := .later }
def WorldForgetsCardSaid : Prop := Claim7.holds Tryd.pinned (.plain (OpenSpec.ofChange worldForgetsSpec)) worldForgetsCard

/-- THE TIED CARD OF 'deliberationlaw03.WorldEntails'. -/
def worldEntailsCard : Claim7 := { stood := { row := worldEntailsRow, standIns := [], harness := (true, "5fb91ce0805bef8ac369e52283aa0861b6c9d9e00f12889be71520d23115f081"), looks := false }, kinds := [], alts := [], laidByText := true, laidKinds := [.data], laidTests := true, laidLooks := .later }
def WorldEntailsCardSaid : Prop := Claim7.holds Tryd.pinned (.plain (OpenSpec.ofChange worldEntailsSpec)) worldEntailsCard

/-- THE SECOND FORM's CARD OF 'deliberationlaw02.FormulaTexts'. -/
def formulaTextsUptoCard : Claim7 := { stood := { row := formulaTextsUptoRow, standIns := [], harness := (true, "5fb91ce0805bef8ac369e52283aa0861b6c9d9e00f12889be71520d23115f081"), looks := false }, kinds := [], alts := [], laidByText := true, laidKinds := [.data], laidTests := true, laidLooks := .later }
def FormulaTextsUptoCardSaid : Prop := Claim7.holds Tryd.pinned (.plain (OpenSpec.upto formulaTextsSpec)) formulaTextsUptoCard

/-- THE SECOND FORM's CARD OF 'deliberationlaw02.FormulaParses'. -/
def formulaParsesUptoCard : Claim7 := { stood := { row := formulaParsesUptoRow, standIns := [], harness := (true, "5fb91ce0805bef8ac369e52283aa0861b6c9d9e00f12889be71520d23115f081"), looks := false }, kinds := [], alts := [], laidByText := true, laidKinds := [.data], laidTests := true, laidLooks := .later }
def FormulaParsesUptoCardSaid : Prop := Claim7.holds Tryd.pinned (.plain (OpenSpec.upto formulaParsesSpec)) formulaParsesUptoCard

/-- THE SECOND FORM's CARD OF 'deliberationlaw02.FormulaBack'. -/
def formulaBackUptoCard : Claim7 := { stood := { row := formulaBackUptoRow, standIns := [], harness := (true, "5fb91ce0805bef8ac369e52283aa0861b6c9d9e00f12889be71520d23115f081"), looks := false }, kinds := [], alts := [], laidByText := true, laidKinds := [.data], laidTests := true, laidLooks := .later }
def FormulaBackUptoCardSaid : Prop := Claim7.holds Tryd.pinned (.plain (OpenSpec.upto formulaBackSpec)) formulaBackUptoCard

/-- THE SECOND FORM's CARD OF 'deliberationlaw02.FormulaOwn'. -/
def formulaOwnUptoCard : Claim7 := { stood := { row := formulaOwnUptoRow, standIns := [], harness := (true, "5fb91ce0805bef8ac369e52283aa0861b6c9d9e00f12889be71520d23115f081"), looks := false }, kinds := [], alts := [], laidByText := true, laidKinds := [.data], laidTests := true, laidLooks := .later }
def FormulaOwnUptoCardSaid : Prop := Claim7.holds Tryd.pinned (.plain (OpenSpec.upto formulaOwnSpec)) formulaOwnUptoCard

/-- THE SECOND FORM's CARD OF 'deliberationlaw03.WorldBack'. -/
def worldBackUptoCard : Claim7 := { stood := { row := worldBackUptoRow, standIns := [], harness := (true, "5fb91ce0805bef8ac369e52283aa0861b6c9d9e00f12889be71520d23115f081"), looks := false }, kinds := [], alts := [], laidByText := true, laidKinds := [.data], laidTests := true, laidLooks := .later }
def WorldBackUptoCardSaid : Prop := Claim7.holds Tryd.pinned (.plain (OpenSpec.upto worldBackSpec)) worldBackUptoCard

/-- THE SECOND FORM's CARD OF 'deliberationlaw03.WorldAlgebra'. -/
def worldAlgebraUptoCard : Claim7 := { stood := { row := worldAlgebraUptoRow, standIns := [], harness := (true, "5fb91ce0805bef8ac369e52283aa0861b6c9d9e00f12889be71520d23115f081"), looks := false }, kinds := [], alts := [], laidByText := true, laidKinds := [.data], laidTests := true, laidLooks := .later }
def WorldAlgebraUptoCardSaid : Prop := Claim7.holds Tryd.pinned (.plain (OpenSpec.upto worldAlgebraSpec)) worldAlgebraUptoCard

/-- THE SECOND FORM's CARD OF 'deliberationlaw03.WorldForgets'. -/
def worldForgetsUptoCard : Claim7 := { stood := { row := worldForgetsUptoRow, standIns := [], harness := (true, "5fb91ce0805bef8ac369e52283aa0861b6c9d9e00f12889be71520d23115f081"), looks := false }, kinds := [], alts := [], laidByText := true, laidKinds := [.data], laidTests := true, laidLooks := .later }
def WorldForgetsUptoCardSaid : Prop := Claim7.holds Tryd.pinned (.plain (OpenSpec.upto worldForgetsSpec)) worldForgetsUptoCard

/-- THE SECOND FORM's CARD OF 'deliberationlaw03.WorldEntails'. -/
def worldEntailsUptoCard : Claim7 := { stood := { row := worldEntailsUptoRow, standIns := [], harness := (true, "5fb91ce0805bef8ac369e52283aa0861b6c9d9e00f12889be71520d23115f081"), looks := false }, kinds := [], alts := [], laidByText := true, laidKinds := [.data], laidTests := true, laidLooks := .later }
def WorldEntailsUptoCardSaid : Prop := Claim7.holds Tryd.pinned (.plain (OpenSpec.upto worldEntailsSpec)) worldEntailsUptoCard
end Rows
end Go.Proofs.YtmkcohcpdfabbaaDoor
