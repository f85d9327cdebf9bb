/-
  DERIVED. GIVEN WITH THE SEED: THE CARDS: each row of YtiffcdhiejmbdaaGreatDoorRows.lean that lists a variable, with what it lists TIED to the program's text (the seventh form; the later family's looks); each row that meets fmt, with fmt's text TOLD by the authors' own Lean function (tested against real Go, not proved from fmt's source: count such statements apart). THE CARD IS WHAT COUNTS. Prove the row's statement (the work); the ties are given (YtiffcdhiejmbdaaGreatDoorTie.lean); close each card by the builder's one call (the guide's Derived/Test/ToyasCard.lean, 'card_holds'). Laid BY PROGRAM, IN A SANDBOX (cutbox-door.mjs). By AI agents, Wed Nov 11 2026. No macro, syntax, notation, axiom, sorry.
-/
import Derived.Test.YtiffcdhiejmbdaaGreatDoorRows
import GoSem.ClaimSeven
namespace Go.Proofs.YtiffcdhiejmbdaaGreatDoor
namespace Rows

/-- THE TIED CARD OF 'deliberationlaw05.RulebaseValidates'. -/
def rulebaseValidatesCard : Claim7 := { stood := { row := rulebaseValidatesRow, standIns := [], harness := (true, "d733e694f3996a833e78fde586291c5f05321ee77daa6ec85c30dce43a14e4c8"), looks := true }, kinds := [], alts := [], laidByText := true, laidKinds := [.data, .data, .data, .sentinel, .sentinel, .listed, .data, .data], laidTests := true, laidLooks := .later }
def RulebaseValidatesCardSaid : Prop := Claim7.holds Tryz.pinned (.plain (OpenSpec.ofChange rulebaseValidatesSpec)) rulebaseValidatesCard

/-- THE TIED CARD OF 'deliberationlaw05.RulebaseFormats'. -/
def rulebaseFormatsCard : Claim7 := { stood := { row := rulebaseFormatsRow, standIns := [], harness := (true, "d733e694f3996a833e78fde586291c5f05321ee77daa6ec85c30dce43a14e4c8"), looks := true }, kinds := [], alts := [], laidByText := true, laidKinds := [.data, .data, .data, .sentinel, .sentinel, .listed, .data, .data], laidTests := true, laidLooks := .later }
def RulebaseFormatsCardSaid : Prop := Claim7.holds Tryz.pinned (.plain (OpenSpec.ofChange rulebaseFormatsSpec)) rulebaseFormatsCard

/-- THE TIED CARD OF 'deliberationlaw05.RulebaseParses'. -/
def rulebaseParsesCard : Claim7 := { stood := { row := rulebaseParsesRow, standIns := [], harness := (true, "d733e694f3996a833e78fde586291c5f05321ee77daa6ec85c30dce43a14e4c8"), looks := true }, kinds := [], alts := [], laidByText := true, laidKinds := [.data, .data, .data, .sentinel, .sentinel, .listed, .data, .data], laidTests := true, laidLooks := .later }
def RulebaseParsesCardSaid : Prop := Claim7.holds Tryz.pinned (.plain (OpenSpec.ofChange rulebaseParsesSpec)) rulebaseParsesCard

/-- THE TIED CARD OF 'deliberationlaw05.RulebasePromotes'. -/
def rulebasePromotesCard : Claim7 := { stood := { row := rulebasePromotesRow, standIns := [], harness := (true, "d733e694f3996a833e78fde586291c5f05321ee77daa6ec85c30dce43a14e4c8"), looks := true }, kinds := [], alts := [], laidByText := true, laidKinds := [.data, .data, .data, .sentinel, .sentinel, .listed, .data, .data], laidTests := true, laidLooks := .later }
def RulebasePromotesCardSaid : Prop := Claim7.holds Tryz.pinned (.plain (OpenSpec.ofChange rulebasePromotesSpec)) rulebasePromotesCard

/-- THE TIED CARD OF 'deliberationlaw06.StrictCloses'. -/
def strictClosesCard : Claim7 := { stood := { row := strictClosesRow, standIns := [], harness := (true, "d733e694f3996a833e78fde586291c5f05321ee77daa6ec85c30dce43a14e4c8"), looks := true }, kinds := [], alts := [], laidByText := true, laidKinds := [.data, .data, .data], laidTests := true, laidLooks := .later }
def StrictClosesCardSaid : Prop := Claim7.holds Tryz.pinned (.plain (OpenSpec.ofChange strictClosesSpec)) strictClosesCard

/-- THE TIED CARD OF 'deliberationlaw06.StrictTransposes'. -/
def strictTransposesCard : Claim7 := { stood := { row := strictTransposesRow, standIns := [], harness := (true, "d733e694f3996a833e78fde586291c5f05321ee77daa6ec85c30dce43a14e4c8"), looks := true }, kinds := [], alts := [], laidByText := true, laidKinds := [.data, .data, .data], laidTests := true, laidLooks := .later }
def StrictTransposesCardSaid : Prop := Claim7.holds Tryz.pinned (.plain (OpenSpec.ofChange strictTransposesSpec)) strictTransposesCard

/-- THE TIED CARD OF 'deliberationlaw06.StrictLeast'. -/
def strictLeastCard : Claim7 := { stood := { row := strictLeastRow, standIns := [], harness := (true, "d733e694f3996a833e78fde586291c5f05321ee77daa6ec85c30dce43a14e4c8"), looks := true }, kinds := [], alts := [], laidByText := true, laidKinds := [.data, .data, .data], laidTests := true, laidLooks := .later }
def StrictLeastCardSaid : Prop := Claim7.holds Tryz.pinned (.plain (OpenSpec.ofChange strictLeastSpec)) strictLeastCard

/-- THE TIED CARD OF 'deliberationlaw06.StrictStable'. -/
def strictStableCard : Claim7 := { stood := { row := strictStableRow, standIns := [], harness := (true, "d733e694f3996a833e78fde586291c5f05321ee77daa6ec85c30dce43a14e4c8"), looks := true }, kinds := [], alts := [], laidByText := true, laidKinds := [.data, .data, .data], laidTests := true, laidLooks := .later }
def StrictStableCardSaid : Prop := Claim7.holds Tryz.pinned (.plain (OpenSpec.ofChange strictStableSpec)) strictStableCard

/-- THE TIED CARD OF 'deliberationlaw06.StrictContraposes'. -/
def strictContraposesCard : Claim7 := { stood := { row := strictContraposesRow, standIns := [], harness := (true, "d733e694f3996a833e78fde586291c5f05321ee77daa6ec85c30dce43a14e4c8"), looks := true }, kinds := [], alts := [], laidByText := true, laidKinds := [.data, .data, .data], laidTests := true, laidLooks := .later }
def StrictContraposesCardSaid : Prop := Claim7.holds Tryz.pinned (.plain (OpenSpec.ofChange strictContraposesSpec)) strictContraposesCard

/-- THE TIED CARD OF 'deliberationlaw06.StrictBlames'. -/
def strictBlamesCard : Claim7 := { stood := { row := strictBlamesRow, standIns := [], harness := (true, "d733e694f3996a833e78fde586291c5f05321ee77daa6ec85c30dce43a14e4c8"), looks := true }, kinds := [], alts := [], laidByText := true, laidKinds := [.data, .data, .data], laidTests := true, laidLooks := .later }
def StrictBlamesCardSaid : Prop := Claim7.holds Tryz.pinned (.plain (OpenSpec.ofChange strictBlamesSpec)) strictBlamesCard

/-- THE SECOND FORM's CARD OF 'deliberationlaw05.RulebaseValidates'. -/
def rulebaseValidatesUptoCard : Claim7 := { stood := { row := rulebaseValidatesUptoRow, standIns := [], harness := (true, "d733e694f3996a833e78fde586291c5f05321ee77daa6ec85c30dce43a14e4c8"), looks := true }, kinds := [], alts := [], laidByText := true, laidKinds := [.data, .data, .data, .sentinel, .sentinel, .listed, .data, .data], laidTests := true, laidLooks := .later }
def RulebaseValidatesUptoCardSaid : Prop := Claim7.holds Tryz.pinned (.plain (OpenSpec.upto rulebaseValidatesSpec)) rulebaseValidatesUptoCard

/-- THE SECOND FORM's CARD OF 'deliberationlaw05.RulebaseFormats'. -/
def rulebaseFormatsUptoCard : Claim7 := { stood := { row := rulebaseFormatsUptoRow, standIns := [], harness := (true, "d733e694f3996a833e78fde586291c5f05321ee77daa6ec85c30dce43a14e4c8"), looks := true }, kinds := [], alts := [], laidByText := true, laidKinds := [.data, .data, .data, .sentinel, .sentinel, .listed, .data, .data], laidTests := true, laidLooks := .later }
def RulebaseFormatsUptoCardSaid : Prop := Claim7.holds Tryz.pinned (.plain (OpenSpec.upto rulebaseFormatsSpec)) rulebaseFormatsUptoCard

/-- THE SECOND FORM's CARD OF 'deliberationlaw05.RulebaseParses'. -/
def rulebaseParsesUptoCard : Claim7 := { stood := { row := rulebaseParsesUptoRow, standIns := [], harness := (true, "d733e694f3996a833e78fde586291c5f05321ee77daa6ec85c30dce43a14e4c8"), looks := true }, kinds := [], alts := [], laidByText := true, laidKinds := [.data, .data, .data, .sentinel, .sentinel, .listed, .data, .data], laidTests := true, laidLooks := .later }
def RulebaseParsesUptoCardSaid : Prop := Claim7.holds Tryz.pinned (.plain (OpenSpec.upto rulebaseParsesSpec)) rulebaseParsesUptoCard

/-- THE SECOND FORM's CARD OF 'deliberationlaw05.RulebasePromotes'. -/
def rulebasePromotesUptoCard : Claim7 := { stood := { row := rulebasePromotesUptoRow, standIns := [], harness := (true, "d733e694f3996a833e78fde586291c5f05321ee77daa6ec85c30dce43a14e4c8"), looks := true }, kinds := [], alts := [], laidByText := true, laidKinds := [.data, .data, .data, .sentinel, .sentinel, .listed, .data, .data], laidTests := true, laidLooks := .later }
def RulebasePromotesUptoCardSaid : Prop := Claim7.holds Tryz.pinned (.plain (OpenSpec.upto rulebasePromotesSpec)) rulebasePromotesUptoCard

/-- THE SECOND FORM's CARD OF 'deliberationlaw06.StrictCloses'. -/
def strictClosesUptoCard : Claim7 := { stood := { row := strictClosesUptoRow, standIns := [], harness := (true, "d733e694f3996a833e78fde586291c5f05321ee77daa6ec85c30dce43a14e4c8"), looks := true }, kinds := [], alts := [], laidByText := true, laidKinds := [.data, .data, .data], laidTests := true, laidLooks := .later }
def StrictClosesUptoCardSaid : Prop := Claim7.holds Tryz.pinned (.plain (OpenSpec.upto strictClosesSpec)) strictClosesUptoCard

/-- THE SECOND FORM's CARD OF 'deliberationlaw06.StrictTransposes'. -/
def strictTransposesUptoCard : Claim7 := { stood := { row := strictTransposesUptoRow, standIns := [], harness := (true, "d733e694f3996a833e78fde586291c5f05321ee77daa6ec85c30dce43a14e4c8"), looks := true }, kinds := [], alts := [], laidByText := true, laidKinds := [.data, .data, .data], laidTests := true, laidLooks := .later }
def StrictTransposesUptoCardSaid : Prop := Claim7.holds Tryz.pinned (.plain (OpenSpec.upto strictTransposesSpec)) strictTransposesUptoCard

/-- THE SECOND FORM's CARD OF 'deliberationlaw06.StrictLeast'. -/
def strictLeastUptoCard : Claim7 := { stood := { row := strictLeastUptoRow, standIns := [], harness := (true, "d733e694f3996a833e78fde586291c5f05321ee77daa6ec85c30dce43a14e4c8"), looks := true }, kinds := [], alts := [], laidByText := true, laidKinds := [.data, .data, .data], laidTests := true, laidLooks := .later }
def StrictLeastUptoCardSaid : Prop := Claim7.holds Tryz.pinned (.plain (OpenSpec.upto strictLeastSpec)) strictLeastUptoCard

/-- THE SECOND FORM's CARD OF 'deliberationlaw06.StrictStable'. -/
def strictStableUptoCard : Claim7 := { stood := { row := strictStableUptoRow, standIns := [], harness := (true, "d733e694f3996a833e78fde586291c5f05321ee77daa6ec85c30dce43a14e4c8"), looks := true }, kinds := [], alts := [], laidByText := true, laidKinds := [.data, .data, .data], laidTests := true, laidLooks := .later }
def StrictStableUptoCardSaid : Prop := Claim7.holds Tryz.pinned (.plain (OpenSpec.upto strictStableSpec)) strictStableUptoCard

/-- THE SECOND FORM's CARD OF 'deliberationlaw06.StrictContraposes'. -/
def strictContraposesUptoCard : Claim7 := { stood := { row := strictContraposesUptoRow, standIns := [], harness := (true, "d733e694f3996a833e78fde586291c5f05321ee77daa6ec85c30dce43a14e4c8"), looks := true }, kinds := [], alts := [], laidByText := true, laidKinds := [.data, .data, .data], laidTests := true, laidLooks := .later }
def StrictContraposesUptoCardSaid : Prop := Claim7.holds Tryz.pinned (.plain (OpenSpec.upto strictContraposesSpec)) strictContraposesUptoCard

/-- THE SECOND FORM's CARD OF 'deliberationlaw06.StrictBlames'. -/
def strictBlamesUptoCard : Claim7 := { stood := { row := strictBlamesUptoRow, standIns := [], harness := (true, "d733e694f3996a833e78fde586291c5f05321ee77daa6ec85c30dce43a14e4c8"), looks := true }, kinds := [], alts := [], laidByText := true, laidKinds := [.data, .data, .data], laidTests := true, laidLooks := .later }
def StrictBlamesUptoCardSaid : Prop := Claim7.holds Tryz.pinned (.plain (OpenSpec.upto strictBlamesSpec)) strictBlamesUptoCard
end Rows
end Go.Proofs.YtiffcdhiejmbdaaGreatDoor
