/-
  DERIVED. GIVEN WITH THE SEED: THE CARDS: each row of YtilkpjcbmllgmaaGreatDoorRows.lean that lists a variable, with what it lists TIED to the program's text (the seventh form; the later family's looks); each row that meets fmt, with fmt's text TOLD by the authors' own Lean function (tested against real Go, not proved from fmt's source: count such statements apart). THE CARD IS WHAT COUNTS. Prove the row's statement (the work); the ties are given (YtilkpjcbmllgmaaGreatDoorTie.lean); close each card by the builder's one call (the guide's Derived/Test/ToyasCard.lean, 'card_holds'). Laid BY PROGRAM, IN A SANDBOX (cutbox-door.mjs). By AI agents, Wed Nov 11 2026. No macro, syntax, notation, axiom, sorry.
-/
import Derived.Test.YtilkpjcbmllgmaaGreatDoorRows
import GoSem.ClaimSeven
namespace Go.Proofs.YtilkpjcbmllgmaaGreatDoor
namespace Rows

/-- THE TIED CARD OF 'deliberationlaw02.FormulaValues'. -/
def formulaValuesCard : Claim7 := { stood := { row := formulaValuesRow, standIns := [], harness := (true, "2eec20d1a75f9f4c5ee99e95383a1faf91e98bb42a316e817f1322324d072c07"), looks := false }, kinds := [], alts := [], laidByText := true, laidKinds := [.data], laidTests := true, laidLooks := .later }
def FormulaValuesCardSaid : Prop := Claim7.holds Tryz.pinned (.plain (OpenSpec.ofChange formulaValuesSpec)) formulaValuesCard

/-- THE TIED CARD OF 'deliberationlaw03.WorldSets'. -/
def worldSetsCard : Claim7 := { stood := { row := worldSetsRow, standIns := [], harness := (true, "2eec20d1a75f9f4c5ee99e95383a1faf91e98bb42a316e817f1322324d072c07"), looks := false }, kinds := [], alts := [], laidByText := true, laidKinds := [.data], laidTests := true, laidLooks := .later }
def WorldSetsCardSaid : Prop := Claim7.holds Tryz.pinned (.plain (OpenSpec.ofChange worldSetsSpec)) worldSetsCard

/-- THE TIED CARD OF 'deliberationlaw03.WorldModels'. -/
def worldModelsCard : Claim7 := { stood := { row := worldModelsRow, standIns := [], harness := (true, "2eec20d1a75f9f4c5ee99e95383a1faf91e98bb42a316e817f1322324d072c07"), looks := false }, kinds := [], alts := [], laidByText := true, laidKinds := [.data], laidTests := true, laidLooks := .later }
def WorldModelsCardSaid : Prop := Claim7.holds Tryz.pinned (.plain (OpenSpec.ofChange worldModelsSpec)) worldModelsCard

/-- THE TIED CARD OF 'deliberationlaw03.WorldTheories'. -/
def worldTheoriesCard : Claim7 := { stood := { row := worldTheoriesRow, standIns := [], harness := (true, "2eec20d1a75f9f4c5ee99e95383a1faf91e98bb42a316e817f1322324d072c07"), looks := false }, kinds := [], alts := [], laidByText := true, laidKinds := [.data], laidTests := true, laidLooks := .later }
def WorldTheoriesCardSaid : Prop := Claim7.holds Tryz.pinned (.plain (OpenSpec.ofChange worldTheoriesSpec)) worldTheoriesCard

/-- THE SECOND FORM's CARD OF 'deliberationlaw02.FormulaValues'. -/
def formulaValuesUptoCard : Claim7 := { stood := { row := formulaValuesUptoRow, standIns := [], harness := (true, "2eec20d1a75f9f4c5ee99e95383a1faf91e98bb42a316e817f1322324d072c07"), looks := false }, kinds := [], alts := [], laidByText := true, laidKinds := [.data], laidTests := true, laidLooks := .later }
def FormulaValuesUptoCardSaid : Prop := Claim7.holds Tryz.pinned (.plain (OpenSpec.upto formulaValuesSpec)) formulaValuesUptoCard

/-- THE SECOND FORM's CARD OF 'deliberationlaw03.WorldSets'. -/
def worldSetsUptoCard : Claim7 := { stood := { row := worldSetsUptoRow, standIns := [], harness := (true, "2eec20d1a75f9f4c5ee99e95383a1faf91e98bb42a316e817f1322324d072c07"), looks := false }, kinds := [], alts := [], laidByText := true, laidKinds := [.data], laidTests := true, laidLooks := .later }
def WorldSetsUptoCardSaid : Prop := Claim7.holds Tryz.pinned (.plain (OpenSpec.upto worldSetsSpec)) worldSetsUptoCard

/-- THE SECOND FORM's CARD OF 'deliberationlaw03.WorldModels'. -/
def worldModelsUptoCard : Claim7 := { stood := { row := worldModelsUptoRow, standIns := [], harness := (true, "2eec20d1a75f9f4c5ee99e95383a1faf91e98bb42a316e817f1322324d072c07"), looks := false }, kinds := [], alts := [], laidByText := true, laidKinds := [.data], laidTests := true, laidLooks := .later }
def WorldModelsUptoCardSaid : Prop := Claim7.holds Tryz.pinned (.plain (OpenSpec.upto worldModelsSpec)) worldModelsUptoCard

/-- THE SECOND FORM's CARD OF 'deliberationlaw03.WorldTheories'. -/
def worldTheoriesUptoCard : Claim7 := { stood := { row := worldTheoriesUptoRow, standIns := [], harness := (true, "2eec20d1a75f9f4c5ee99e95383a1faf91e98bb42a316e817f1322324d072c07"), looks := false }, kinds := [], alts := [], laidByText := true, laidKinds := [.data], laidTests := true, laidLooks := .later }
def WorldTheoriesUptoCardSaid : Prop := Claim7.holds Tryz.pinned (.plain (OpenSpec.upto worldTheoriesSpec)) worldTheoriesUptoCard
end Rows
end Go.Proofs.YtilkpjcbmllgmaaGreatDoor
