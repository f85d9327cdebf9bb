/-
  DERIVED. GIVEN WITH THE SEED: THE CARDS: each row of YtilkpjcbmllgmaaDoorRows.lean that lists a variable, with what it lists TIED to the program's text (the seventh form; the later family's looks); each row that meets fmt, with fmt's text TOLD by the authors' own Lean function (tested against real Go, not proved from fmt's source: count such statements apart). THE CARD IS WHAT COUNTS. Prove the row's statement (the work); the ties are given (YtilkpjcbmllgmaaDoorTie.lean); close each card by the builder's one call (the guide's Derived/Test/ToyasCard.lean, 'card_holds'). Laid BY PROGRAM, IN A SANDBOX (cutbox-door.mjs). By AI agents, Wed Nov 11 2026. No macro, syntax, notation, axiom, sorry.
-/
import Derived.Test.YtilkpjcbmllgmaaDoorRows
import GoSem.ClaimSeven
namespace Go.Proofs.YtilkpjcbmllgmaaDoor
namespace Rows

/-- THE TIED CARD OF 'deliberationlaw02.FormulaTexts'. -/
def formulaTextsCard : Claim7 := { stood := { row := formulaTextsRow, standIns := [], harness := (true, "19c59469860936ed04c4b00aa3c7d7dde71064e7e38d84cceb0c35c94c664f07"), looks := false }, kinds := [], alts := [], laidByText := true, laidKinds := [.data], laidTests := true, laidLooks := .later }
def FormulaTextsCardSaid : Prop := Claim7.holds Tryd.pinned (.plain (OpenSpec.ofChange formulaTextsSpec)) formulaTextsCard

/-- THE TIED CARD OF 'deliberationlaw02.FormulaParses'. -/
def formulaParsesCard : Claim7 := { stood := { row := formulaParsesRow, standIns := [], harness := (true, "19c59469860936ed04c4b00aa3c7d7dde71064e7e38d84cceb0c35c94c664f07"), looks := false }, kinds := [], alts := [], laidByText := true, laidKinds := [.data], laidTests := true, laidLooks := .later }
def FormulaParsesCardSaid : Prop := Claim7.holds Tryd.pinned (.plain (OpenSpec.ofChange formulaParsesSpec)) formulaParsesCard

/-- THE TIED CARD OF 'deliberationlaw02.FormulaOwn'. -/
def formulaOwnCard : Claim7 := { stood := { row := formulaOwnRow, standIns := [], harness := (true, "19c59469860936ed04c4b00aa3c7d7dde71064e7e38d84cceb0c35c94c664f07"), looks := false }, kinds := [], alts := [], laidByText := true, laidKinds := [.data], laidTests := true, laidLooks := .later }
def FormulaOwnCardSaid : Prop := Claim7.holds Tryd.pinned (.plain (OpenSpec.ofChange formulaOwnSpec)) formulaOwnCard

/-- THE SECOND FORM's CARD OF 'deliberationlaw02.FormulaTexts'. -/
def formulaTextsUptoCard : Claim7 := { stood := { row := formulaTextsUptoRow, standIns := [], harness := (true, "19c59469860936ed04c4b00aa3c7d7dde71064e7e38d84cceb0c35c94c664f07"), looks := false }, kinds := [], alts := [], laidByText := true, laidKinds := [.data], laidTests := true, laidLooks := .later }
def FormulaTextsUptoCardSaid : Prop := Claim7.holds Tryd.pinned (.plain (OpenSpec.upto formulaTextsSpec)) formulaTextsUptoCard

/-- THE SECOND FORM's CARD OF 'deliberationlaw02.FormulaParses'. -/
def formulaParsesUptoCard : Claim7 := { stood := { row := formulaParsesUptoRow, standIns := [], harness := (true, "19c59469860936ed04c4b00aa3c7d7dde71064e7e38d84cceb0c35c94c664f07"), looks := false }, kinds := [], alts := [], laidByText := true, laidKinds := [.data], laidTests := true, laidLooks := .later }
def FormulaParsesUptoCardSaid : Prop := Claim7.holds Tryd.pinned (.plain (OpenSpec.upto formulaParsesSpec)) formulaParsesUptoCard

/-- THE SECOND FORM's CARD OF 'deliberationlaw02.FormulaOwn'. -/
def formulaOwnUptoCard : Claim7 := { stood := { row := formulaOwnUptoRow, standIns := [], harness := (true, "19c59469860936ed04c4b00aa3c7d7dde71064e7e38d84cceb0c35c94c664f07"), looks := false }, kinds := [], alts := [], laidByText := true, laidKinds := [.data], laidTests := true, laidLooks := .later }
def FormulaOwnUptoCardSaid : Prop := Claim7.holds Tryd.pinned (.plain (OpenSpec.upto formulaOwnSpec)) formulaOwnUptoCard
end Rows
end Go.Proofs.YtilkpjcbmllgmaaDoor
