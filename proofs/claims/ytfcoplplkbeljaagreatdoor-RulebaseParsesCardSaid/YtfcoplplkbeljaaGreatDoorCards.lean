/-
  DERIVED. GIVEN WITH THE SEED: THE CARDS: each row of YtfcoplplkbeljaaGreatDoorRows.lean that lists a variable, with what it lists TIED to the program's text (the seventh form; the later family's looks); each row that meets fmt, with fmt's text TOLD by the authors' own Lean function (tested against real Go, not proved from fmt's source: count such statements apart). THE CARD IS WHAT COUNTS. Prove the row's statement (the work); the ties are given (YtfcoplplkbeljaaGreatDoorTie.lean); close each card by the builder's one call (the guide's Derived/Test/ToyasCard.lean, 'card_holds'). Laid BY PROGRAM, IN A SANDBOX (cutbox-door.mjs). By AI agents, Wed Nov 11 2026. No macro, syntax, notation, axiom, sorry.
-/
import Derived.Test.YtfcoplplkbeljaaGreatDoorRows
import GoSem.ClaimSeven
namespace Go.Proofs.YtfcoplplkbeljaaGreatDoor
namespace Rows

/-- THE TIED CARD OF 'deliberationlaw05.RulebaseParses'. -/
def rulebaseParsesCard : Claim7 := { stood := { row := rulebaseParsesRow, standIns := [], harness := (true, "8b32416b4ae4b1ed6c8baf20f171e8c579ac3a0fa7ee3daad9122f436007c490"), looks := true }, kinds := [], alts := [], laidByText := true, laidKinds := [.data, .data, .data, .sentinel, .sentinel, .listed, .data, .data], laidTests := true, laidLooks := .later }
def RulebaseParsesCardSaid : Prop := Claim7.holds Tryz.pinned (.plain (OpenSpec.ofChange rulebaseParsesSpec)) rulebaseParsesCard

/-- THE TIED CARD OF 'deliberationlaw06.StrictCloses'. -/
def strictClosesCard : Claim7 := { stood := { row := strictClosesRow, standIns := [], harness := (true, "8b32416b4ae4b1ed6c8baf20f171e8c579ac3a0fa7ee3daad9122f436007c490"), looks := true }, kinds := [], alts := [], laidByText := true, laidKinds := [.data, .data, .data], laidTests := true, laidLooks := .later }
def StrictClosesCardSaid : Prop := Claim7.holds Tryz.pinned (.plain (OpenSpec.ofChange strictClosesSpec)) strictClosesCard

/-- THE TIED CARD OF 'deliberationlaw06.StrictTransposes'. -/
def strictTransposesCard : Claim7 := { stood := { row := strictTransposesRow, standIns := [], harness := (true, "8b32416b4ae4b1ed6c8baf20f171e8c579ac3a0fa7ee3daad9122f436007c490"), looks := true }, kinds := [], alts := [], laidByText := true, laidKinds := [.data, .data, .data], laidTests := true, laidLooks := .later }
def StrictTransposesCardSaid : Prop := Claim7.holds Tryz.pinned (.plain (OpenSpec.ofChange strictTransposesSpec)) strictTransposesCard

/-- THE TIED CARD OF 'deliberationlaw06.StrictLeast'. -/
def strictLeastCard : Claim7 := { stood := { row := strictLeastRow, standIns := [], harness := (true, "8b32416b4ae4b1ed6c8baf20f171e8c579ac3a0fa7ee3daad9122f436007c490"), looks := true }, kinds := [], alts := [], laidByText := true, laidKinds := [.data, .data, .data], laidTests := true, laidLooks := .later }
def StrictLeastCardSaid : Prop := Claim7.holds Tryz.pinned (.plain (OpenSpec.ofChange strictLeastSpec)) strictLeastCard

/-- THE TIED CARD OF 'deliberationlaw06.StrictStable'. -/
def strictStableCard : Claim7 := { stood := { row := strictStableRow, standIns := [], harness := (true, "8b32416b4ae4b1ed6c8baf20f171e8c579ac3a0fa7ee3daad9122f436007c490"), looks := true }, kinds := [], alts := [], laidByText := true, laidKinds := [.data, .data, .data], laidTests := true, laidLooks := .later }
def StrictStableCardSaid : Prop := Claim7.holds Tryz.pinned (.plain (OpenSpec.ofChange strictStableSpec)) strictStableCard

/-- THE TIED CARD OF 'deliberationlaw06.StrictContraposes'. -/
def strictContraposesCard : Claim7 := { stood := { row := strictContraposesRow, standIns := [], harness := (true, "8b32416b4ae4b1ed6c8baf20f171e8c579ac3a0fa7ee3daad9122f436007c490"), looks := true }, kinds := [], alts := [], laidByText := true, laidKinds := [.data, .data, .data], laidTests := true, laidLooks := .later }
def StrictContraposesCardSaid : Prop := Claim7.holds Tryz.pinned (.plain (OpenSpec.ofChange strictContraposesSpec)) strictContraposesCard

/-- THE TIED CARD OF 'deliberationlaw06.StrictBlames'. -/
def strictBlamesCard : Claim7 := { stood := { row := strictBlamesRow, standIns := [], harness := (true, "8b32416b4ae4b1ed6c8baf20f171e8c579ac3a0fa7ee3daad9122f436007c490"), looks := true }, kinds := [], alts := [], laidByText := true, laidKinds := [.data, .data, .data], laidTests := true, laidLooks := .later }
def StrictBlamesCardSaid : Prop := Claim7.holds Tryz.pinned (.plain (OpenSpec.ofChange strictBlamesSpec)) strictBlamesCard

/-- THE SECOND FORM's CARD OF 'deliberationlaw05.RulebaseParses'. -/
def rulebaseParsesUptoCard : Claim7 := { stood := { row := rulebaseParsesUptoRow, standIns := [], harness := (true, "8b32416b4ae4b1ed6c8baf20f171e8c579ac3a0fa7ee3daad9122f436007c490"), looks := true }, kinds := [], alts := [], laidByText := true, laidKinds := [.data, .data, .data, .sentinel, .sentinel, .listed, .data, .data], laidTests := true, laidLooks := .later }
def RulebaseParsesUptoCardSaid : Prop := Claim7.holds Tryz.pinned (.plain (OpenSpec.upto rulebaseParsesSpec)) rulebaseParsesUptoCard

/-- THE SECOND FORM's CARD OF 'deliberationlaw06.StrictCloses'. -/
def strictClosesUptoCard : Claim7 := { stood := { row := strictClosesUptoRow, standIns := [], harness := (true, "8b32416b4ae4b1ed6c8baf20f171e8c579ac3a0fa7ee3daad9122f436007c490"), looks := true }, kinds := [], alts := [], laidByText := true, laidKinds := [.data, .data, .data], laidTests := true, laidLooks := .later }
def StrictClosesUptoCardSaid : Prop := Claim7.holds Tryz.pinned (.plain (OpenSpec.upto strictClosesSpec)) strictClosesUptoCard

/-- THE SECOND FORM's CARD OF 'deliberationlaw06.StrictTransposes'. -/
def strictTransposesUptoCard : Claim7 := { stood := { row := strictTransposesUptoRow, standIns := [], harness := (true, "8b32416b4ae4b1ed6c8baf20f171e8c579ac3a0fa7ee3daad9122f436007c490"), looks := true }, kinds := [], alts := [], laidByText := true, laidKinds := [.data, .data, .data], laidTests := true, laidLooks := .later }
def StrictTransposesUptoCardSaid : Prop := Claim7.holds Tryz.pinned (.plain (OpenSpec.upto strictTransposesSpec)) strictTransposesUptoCard

/-- THE SECOND FORM's CARD OF 'deliberationlaw06.StrictLeast'. -/
def strictLeastUptoCard : Claim7 := { stood := { row := strictLeastUptoRow, standIns := [], harness := (true, "8b32416b4ae4b1ed6c8baf20f171e8c579ac3a0fa7ee3daad9122f436007c490"), looks := true }, kinds := [], alts := [], laidByText := true, laidKinds := [.data, .data, .data], laidTests := true, laidLooks := .later }
def StrictLeastUptoCardSaid : Prop := Claim7.holds Tryz.pinned (.plain (OpenSpec.upto strictLeastSpec)) strictLeastUptoCard

/-- THE SECOND FORM's CARD OF 'deliberationlaw06.StrictStable'. -/
def strictStableUptoCard : Claim7 := { stood := { row := strictStableUptoRow, standIns := [], harness := (true, "8b32416b4ae4b1ed6c8baf20f171e8c579ac3a0fa7ee3daad9122f436007c490"), looks := true }, kinds := [], alts := [], laidByText := true, laidKinds := [.data, .data, .data], laidTests := true, laidLooks := .later }
def StrictStableUptoCardSaid : Prop := Claim7.holds Tryz.pinned (.plain (OpenSpec.upto strictStableSpec)) strictStableUptoCard

/-- THE SECOND FORM's CARD OF 'deliberationlaw06.StrictContraposes'. -/
def strictContraposesUptoCard : Claim7 := { stood := { row := strictContraposesUptoRow, standIns := [], harness := (true, "8b32416b4ae4b1ed6c8baf20f171e8c579ac3a0fa7ee3daad9122f436007c490"), looks := true }, kinds := [], alts := [], laidByText := true, laidKinds := [.data, .data, .data], laidTests := true, laidLooks := .later }
def StrictContraposesUptoCardSaid : Prop := Claim7.holds Tryz.pinned (.plain (OpenSpec.upto strictContraposesSpec)) strictContraposesUptoCard

/-- THE SECOND FORM's CARD OF 'deliberationlaw06.StrictBlames'. -/
def strictBlamesUptoCard : Claim7 := { stood := { row := strictBlamesUptoRow, standIns := [], harness := (true, "8b32416b4ae4b1ed6c8baf20f171e8c579ac3a0fa7ee3daad9122f436007c490"), looks := true }, kinds := [], alts := [], laidByText := true, laidKinds := [.data, .data, .data], laidTests := true, laidLooks := .later }
def StrictBlamesUptoCardSaid : Prop := Claim7.holds Tryz.pinned (.plain (OpenSpec.upto strictBlamesSpec)) strictBlamesUptoCard
end Rows
end Go.Proofs.YtfcoplplkbeljaaGreatDoor
