/-
  DERIVED. GIVEN WITH THE SEED: THE CARDS: each row of YtcelijjohcfhkaaDoorRows.lean that lists a variable, with what it lists TIED to the program's text (the seventh form; the later family's looks); each row that meets fmt, with fmt's text TOLD by the authors' own Lean function (tested against real Go, not proved from fmt's source: count such statements apart). THE CARD IS WHAT COUNTS. Prove the row's statement (the work); the ties are given (YtcelijjohcfhkaaDoorTie.lean); close each card by the builder's one call (the guide's Derived/Test/ToyasCard.lean, 'card_holds'). Laid BY PROGRAM, IN A SANDBOX (cutbox-door.mjs). By AI agents, Wed Nov 11 2026. No macro, syntax, notation, axiom, sorry.
-/
import Derived.Test.YtcelijjohcfhkaaDoorRows
import GoSem.ClaimSeven
namespace Go.Proofs.YtcelijjohcfhkaaDoor
namespace Rows

/-- THE TIED CARD OF 'deliberationlaw10.GraphParts'. -/
def graphPartsCard : Claim7 := { stood := { row := graphPartsRow, standIns := [], harness := (true, "7a0dd01371d6fb450221f0745311b7b3479f30e26428c6a3a25694c1e86f3c59"), looks := false }, kinds := [], alts := [], laidByText := true, laidKinds := [.data], laidTests := true, laidLooks := .later }
def GraphPartsCardSaid : Prop := Claim7.holds Tryd.pinned (.plain (OpenSpec.ofChange graphPartsSpec)) graphPartsCard

/-- THE TIED CARD OF 'deliberationlaw10.GraphComponents'. -/
def graphComponentsCard : Claim7 := { stood := { row := graphComponentsRow, standIns := [], harness := (true, "7a0dd01371d6fb450221f0745311b7b3479f30e26428c6a3a25694c1e86f3c59"), looks := false }, kinds := [], alts := [], laidByText := true, laidKinds := [.data], laidTests := true, laidLooks := .later }
def GraphComponentsCardSaid : Prop := Claim7.holds Tryd.pinned (.plain (OpenSpec.ofChange graphComponentsSpec)) graphComponentsCard

/-- THE TIED CARD OF 'deliberationlaw12.GroundedLocal'. -/
def groundedLocalCard : Claim7 := { stood := { row := groundedLocalRow, standIns := [], harness := (true, "7a0dd01371d6fb450221f0745311b7b3479f30e26428c6a3a25694c1e86f3c59"), looks := false }, kinds := [], alts := [], laidByText := true, laidKinds := [.data], laidTests := true, laidLooks := .later }
def GroundedLocalCardSaid : Prop := Claim7.holds Tryd.pinned (.plain (OpenSpec.ofChange groundedLocalSpec)) groundedLocalCard

/-- THE SECOND FORM's CARD OF 'deliberationlaw10.GraphParts'. -/
def graphPartsUptoCard : Claim7 := { stood := { row := graphPartsUptoRow, standIns := [], harness := (true, "7a0dd01371d6fb450221f0745311b7b3479f30e26428c6a3a25694c1e86f3c59"), looks := false }, kinds := [], alts := [], laidByText := true, laidKinds := [.data], laidTests := true, laidLooks := .later }
def GraphPartsUptoCardSaid : Prop := Claim7.holds Tryd.pinned (.plain (OpenSpec.upto graphPartsSpec)) graphPartsUptoCard

/-- THE SECOND FORM's CARD OF 'deliberationlaw10.GraphComponents'. -/
def graphComponentsUptoCard : Claim7 := { stood := { row := graphComponentsUptoRow, standIns := [], harness := (true, "7a0dd01371d6fb450221f0745311b7b3479f30e26428c6a3a25694c1e86f3c59"), looks := false }, kinds := [], alts := [], laidByText := true, laidKinds := [.data], laidTests := true, laidLooks := .later }
def GraphComponentsUptoCardSaid : Prop := Claim7.holds Tryd.pinned (.plain (OpenSpec.upto graphComponentsSpec)) graphComponentsUptoCard

/-- THE SECOND FORM's CARD OF 'deliberationlaw12.GroundedLocal'. -/
def groundedLocalUptoCard : Claim7 := { stood := { row := groundedLocalUptoRow, standIns := [], harness := (true, "7a0dd01371d6fb450221f0745311b7b3479f30e26428c6a3a25694c1e86f3c59"), looks := false }, kinds := [], alts := [], laidByText := true, laidKinds := [.data], laidTests := true, laidLooks := .later }
def GroundedLocalUptoCardSaid : Prop := Claim7.holds Tryd.pinned (.plain (OpenSpec.upto groundedLocalSpec)) groundedLocalUptoCard
end Rows
end Go.Proofs.YtcelijjohcfhkaaDoor
