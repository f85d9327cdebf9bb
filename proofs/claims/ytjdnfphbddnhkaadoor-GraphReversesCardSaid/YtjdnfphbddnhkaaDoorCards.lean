/-
  DERIVED. GIVEN WITH THE SEED: THE CARDS: each row of YtjdnfphbddnhkaaDoorRows.lean that lists a variable, with what it lists TIED to the program's text (the seventh form; the later family's looks); each row that meets fmt, with fmt's text TOLD by the authors' own Lean function (tested against real Go, not proved from fmt's source: count such statements apart). THE CARD IS WHAT COUNTS. Prove the row's statement (the work); the ties are given (YtjdnfphbddnhkaaDoorTie.lean); close each card by the builder's one call (the guide's Derived/Test/ToyasCard.lean, 'card_holds'). Laid BY PROGRAM, IN A SANDBOX (cutbox-door.mjs). By AI agents, Wed Nov 11 2026. No macro, syntax, notation, axiom, sorry.
-/
import Derived.Test.YtjdnfphbddnhkaaDoorRows
import GoSem.ClaimSeven
namespace Go.Proofs.YtjdnfphbddnhkaaDoor
namespace Rows

/-- THE TIED CARD OF 'deliberationlaw10.GraphValidates'. -/
def graphValidatesCard : Claim7 := { stood := { row := graphValidatesRow, standIns := [], harness := (true, "c0c1ef12a64298f26b6307dd227101cb0a8ba9ff6297f1d3759328ad5a163715"), looks := false }, kinds := [], alts := [], laidByText := true, laidKinds := [.data], laidTests := true, laidLooks := .later }
def GraphValidatesCardSaid : Prop := Claim7.holds Tryd.pinned (.plain (OpenSpec.ofChange graphValidatesSpec)) graphValidatesCard

/-- THE TIED CARD OF 'deliberationlaw10.GraphParts'. -/
def graphPartsCard : Claim7 := { stood := { row := graphPartsRow, standIns := [], harness := (true, "c0c1ef12a64298f26b6307dd227101cb0a8ba9ff6297f1d3759328ad5a163715"), looks := false }, kinds := [], alts := [], laidByText := true, laidKinds := [.data], laidTests := true, laidLooks := .later }
def GraphPartsCardSaid : Prop := Claim7.holds Tryd.pinned (.plain (OpenSpec.ofChange graphPartsSpec)) graphPartsCard

/-- THE TIED CARD OF 'deliberationlaw10.GraphComponents'. -/
def graphComponentsCard : Claim7 := { stood := { row := graphComponentsRow, standIns := [], harness := (true, "c0c1ef12a64298f26b6307dd227101cb0a8ba9ff6297f1d3759328ad5a163715"), looks := false }, kinds := [], alts := [], laidByText := true, laidKinds := [.data], laidTests := true, laidLooks := .later }
def GraphComponentsCardSaid : Prop := Claim7.holds Tryd.pinned (.plain (OpenSpec.ofChange graphComponentsSpec)) graphComponentsCard

/-- THE TIED CARD OF 'deliberationlaw10.GraphReverses'. -/
def graphReversesCard : Claim7 := { stood := { row := graphReversesRow, standIns := [], harness := (true, "c0c1ef12a64298f26b6307dd227101cb0a8ba9ff6297f1d3759328ad5a163715"), looks := false }, kinds := [], alts := [], laidByText := true, laidKinds := [.data], laidTests := true, laidLooks := .later }
def GraphReversesCardSaid : Prop := Claim7.holds Tryd.pinned (.plain (OpenSpec.ofChange graphReversesSpec)) graphReversesCard

/-- THE SECOND FORM's CARD OF 'deliberationlaw10.GraphValidates'. -/
def graphValidatesUptoCard : Claim7 := { stood := { row := graphValidatesUptoRow, standIns := [], harness := (true, "c0c1ef12a64298f26b6307dd227101cb0a8ba9ff6297f1d3759328ad5a163715"), looks := false }, kinds := [], alts := [], laidByText := true, laidKinds := [.data], laidTests := true, laidLooks := .later }
def GraphValidatesUptoCardSaid : Prop := Claim7.holds Tryd.pinned (.plain (OpenSpec.upto graphValidatesSpec)) graphValidatesUptoCard

/-- THE SECOND FORM's CARD OF 'deliberationlaw10.GraphParts'. -/
def graphPartsUptoCard : Claim7 := { stood := { row := graphPartsUptoRow, standIns := [], harness := (true, "c0c1ef12a64298f26b6307dd227101cb0a8ba9ff6297f1d3759328ad5a163715"), looks := false }, kinds := [], alts := [], laidByText := true, laidKinds := [.data], laidTests := true, laidLooks := .later }
def GraphPartsUptoCardSaid : Prop := Claim7.holds Tryd.pinned (.plain (OpenSpec.upto graphPartsSpec)) graphPartsUptoCard

/-- THE SECOND FORM's CARD OF 'deliberationlaw10.GraphComponents'. -/
def graphComponentsUptoCard : Claim7 := { stood := { row := graphComponentsUptoRow, standIns := [], harness := (true, "c0c1ef12a64298f26b6307dd227101cb0a8ba9ff6297f1d3759328ad5a163715"), looks := false }, kinds := [], alts := [], laidByText := true, laidKinds := [.data], laidTests := true, laidLooks := .later }
def GraphComponentsUptoCardSaid : Prop := Claim7.holds Tryd.pinned (.plain (OpenSpec.upto graphComponentsSpec)) graphComponentsUptoCard

/-- THE SECOND FORM's CARD OF 'deliberationlaw10.GraphReverses'. -/
def graphReversesUptoCard : Claim7 := { stood := { row := graphReversesUptoRow, standIns := [], harness := (true, "c0c1ef12a64298f26b6307dd227101cb0a8ba9ff6297f1d3759328ad5a163715"), looks := false }, kinds := [], alts := [], laidByText := true, laidKinds := [.data], laidTests := true, laidLooks := .later }
def GraphReversesUptoCardSaid : Prop := Claim7.holds Tryd.pinned (.plain (OpenSpec.upto graphReversesSpec)) graphReversesUptoCard
end Rows
end Go.Proofs.YtjdnfphbddnhkaaDoor
