/-
  No cell of these rows narrows 'for every input' (looked for: loops, veiled, ifaces, maps, wideKeys, modest, calm, conditions, laid).
  DERIVED. THE GIVEN ROWS OF THIS SEAT. 6 by the template 'for every input the law returns true; each argument reads behind the call as it read before'; 0 by the template 'total and deterministic' (their statements: YtbahfcefplgigaaTotals.lean).
  GIVEN WITH THE SEED: the statements are not yours to turn. If you find one false, say at which input.
  Laid BY PROGRAM, IN A SANDBOX (cutbox-rows.mjs): the forced cells as the released guide's own fill.sh prints them over the translation ada4b83f7bebf867… (all of the seat's roots in one cut). By AI agents, Wed Nov 11 2026. No macro, syntax, notation, axiom, sorry.
-/
import Derived.Test.YtbahfcefplgigaaChecked
import GoSem.Claim
import GoSem.ClaimJoined
import GoSem.ClaimMapViews
import Derived.JoinedTies
import Derived.KernelRfl
namespace Go.Proofs.Ytbahfcefplgigaa
/- THE CELL 'sum', in the pinned program and in every row, IS THE sha256 OF THE DUMP (.gsa) THAT YtbahfcefplgigaaProg.lean LOADS. Nothing in Lean hashes anything: it is a label: what it is worth is what the hold of that sum in a sandbox is worth. -/
noncomputable def Try.pinned : Pinned := { name := "ytbahfcefplgigaa", sum := "ada4b83f7bebf867527aa7754370e56337a32443b61166f6279dd9c8b9d16fbc", checked := Try.checked }
namespace Rows
def none {H : Type} : Left H := { results := [], args := [] }

/-- 'deliberationlaw11.LabellingLegal': WHATEVER THE INPUT: true; the input reads as it did. -/
def labellingLegalSpec : ChangeSpec := { name := "labellingLegal", fn := fun _ => fun
  | [d1, d2] => { results := [.lit (.bool true)], args := [d1, d2] }
  | _ => none }
def labellingLegalRow : OpenClaim := { program := "ytbahfcefplgigaa", sum := "ada4b83f7bebf867527aa7754370e56337a32443b61166f6279dd9c8b9d16fbc", func := "deliberation/deliberationlaw11.LabellingLegal", spec := "labellingLegal", unfollowed := true, recurses := true, apart := false }
def LabellingLegalSaid : Prop := labellingLegalRow.holds Try.pinned (OpenSpec.ofChange labellingLegalSpec)

/-- ITS FALSE NEIGHBOUR: 'it returns false'. Refute it at one input. -/
def labellingLegalWrong : ChangeSpec := { name := "labellingLegal", fn := fun _ => fun
  | [d1, d2] => { results := [.lit (.bool false)], args := [d1, d2] }
  | _ => none }
def LabellingLegalWrongFalsely : Prop := labellingLegalRow.holds Try.pinned (OpenSpec.ofChange labellingLegalWrong)

/-- 'deliberationlaw11.LabellingSets': WHATEVER THE INPUT: true; the input reads as it did. -/
def labellingSetsSpec : ChangeSpec := { name := "labellingSets", fn := fun _ => fun
  | [d1, d2, d3, d4] => { results := [.lit (.bool true)], args := [d1, d2, d3, d4] }
  | _ => none }
def labellingSetsRow : OpenClaim := { program := "ytbahfcefplgigaa", sum := "ada4b83f7bebf867527aa7754370e56337a32443b61166f6279dd9c8b9d16fbc", func := "deliberation/deliberationlaw11.LabellingSets", spec := "labellingSets", unfollowed := true, recurses := true, apart := false }
def LabellingSetsSaid : Prop := labellingSetsRow.holds Try.pinned (OpenSpec.ofChange labellingSetsSpec)

/-- ITS FALSE NEIGHBOUR: 'it returns false'. Refute it at one input. -/
def labellingSetsWrong : ChangeSpec := { name := "labellingSets", fn := fun _ => fun
  | [d1, d2, d3, d4] => { results := [.lit (.bool false)], args := [d1, d2, d3, d4] }
  | _ => none }
def LabellingSetsWrongFalsely : Prop := labellingSetsRow.holds Try.pinned (OpenSpec.ofChange labellingSetsWrong)

/-- 'deliberationlaw11.LabellingOrders': WHATEVER THE INPUT: true; the input reads as it did. -/
def labellingOrdersSpec : ChangeSpec := { name := "labellingOrders", fn := fun _ => fun
  | [d1, d2, d3] => { results := [.lit (.bool true)], args := [d1, d2, d3] }
  | _ => none }
def labellingOrdersRow : OpenClaim := { program := "ytbahfcefplgigaa", sum := "ada4b83f7bebf867527aa7754370e56337a32443b61166f6279dd9c8b9d16fbc", func := "deliberation/deliberationlaw11.LabellingOrders", spec := "labellingOrders", unfollowed := true, recurses := true, apart := false }
def LabellingOrdersSaid : Prop := labellingOrdersRow.holds Try.pinned (OpenSpec.ofChange labellingOrdersSpec)

/-- ITS FALSE NEIGHBOUR: 'it returns false'. Refute it at one input. -/
def labellingOrdersWrong : ChangeSpec := { name := "labellingOrders", fn := fun _ => fun
  | [d1, d2, d3] => { results := [.lit (.bool false)], args := [d1, d2, d3] }
  | _ => none }
def LabellingOrdersWrongFalsely : Prop := labellingOrdersRow.holds Try.pinned (OpenSpec.ofChange labellingOrdersWrong)

/-- 'deliberationlaw11.LabellingLattice': WHATEVER THE INPUT: true; the input reads as it did. -/
def labellingLatticeSpec : ChangeSpec := { name := "labellingLattice", fn := fun _ => fun
  | [d] => { results := [.lit (.bool true)], args := [d] }
  | _ => none }
def labellingLatticeRow : OpenClaim := { program := "ytbahfcefplgigaa", sum := "ada4b83f7bebf867527aa7754370e56337a32443b61166f6279dd9c8b9d16fbc", func := "deliberation/deliberationlaw11.LabellingLattice", spec := "labellingLattice", unfollowed := true, recurses := true, apart := false }
def LabellingLatticeSaid : Prop := labellingLatticeRow.holds Try.pinned (OpenSpec.ofChange labellingLatticeSpec)

/-- ITS FALSE NEIGHBOUR: 'it returns false'. Refute it at one input. -/
def labellingLatticeWrong : ChangeSpec := { name := "labellingLattice", fn := fun _ => fun
  | [d] => { results := [.lit (.bool false)], args := [d] }
  | _ => none }
def LabellingLatticeWrongFalsely : Prop := labellingLatticeRow.holds Try.pinned (OpenSpec.ofChange labellingLatticeWrong)

/-- 'deliberationlaw11.LabellingComplete': WHATEVER THE INPUT: true; the input reads as it did. -/
def labellingCompleteSpec : ChangeSpec := { name := "labellingComplete", fn := fun _ => fun
  | [d] => { results := [.lit (.bool true)], args := [d] }
  | _ => none }
def labellingCompleteRow : OpenClaim := { program := "ytbahfcefplgigaa", sum := "ada4b83f7bebf867527aa7754370e56337a32443b61166f6279dd9c8b9d16fbc", func := "deliberation/deliberationlaw11.LabellingComplete", spec := "labellingComplete", unfollowed := true, recurses := true, apart := false }
def LabellingCompleteSaid : Prop := labellingCompleteRow.holds Try.pinned (OpenSpec.ofChange labellingCompleteSpec)

/-- ITS FALSE NEIGHBOUR: 'it returns false'. Refute it at one input. -/
def labellingCompleteWrong : ChangeSpec := { name := "labellingComplete", fn := fun _ => fun
  | [d] => { results := [.lit (.bool false)], args := [d] }
  | _ => none }
def LabellingCompleteWrongFalsely : Prop := labellingCompleteRow.holds Try.pinned (OpenSpec.ofChange labellingCompleteWrong)

/-- 'deliberationlaw11.LabellingChanges': WHATEVER THE INPUT: true; the input reads as it did. -/
def labellingChangesSpec : ChangeSpec := { name := "labellingChanges", fn := fun _ => fun
  | [d] => { results := [.lit (.bool true)], args := [d] }
  | _ => none }
def labellingChangesRow : OpenClaim := { program := "ytbahfcefplgigaa", sum := "ada4b83f7bebf867527aa7754370e56337a32443b61166f6279dd9c8b9d16fbc", func := "deliberation/deliberationlaw11.LabellingChanges", spec := "labellingChanges", unfollowed := true, recurses := true, apart := false }
def LabellingChangesSaid : Prop := labellingChangesRow.holds Try.pinned (OpenSpec.ofChange labellingChangesSpec)

/-- ITS FALSE NEIGHBOUR: 'it returns false'. Refute it at one input. -/
def labellingChangesWrong : ChangeSpec := { name := "labellingChanges", fn := fun _ => fun
  | [d] => { results := [.lit (.bool false)], args := [d] }
  | _ => none }
def LabellingChangesWrongFalsely : Prop := labellingChangesRow.holds Try.pinned (OpenSpec.ofChange labellingChangesWrong)

/- THE SECOND FORM. 'bulk': how many values and letters a reading holds, each counted each time it is reached (what is shared counts as often as it is met; a slice's spare places count too). A statement '..UptoSaid' is the law's where the arguments, and the package variables that the reading takes, are together of bulk at most 1048576: NARROWER than '..Said'. Prove '..Said' where nothing that the law and all that it calls make is longer than what came in: it says more and counts as full. Else prove '..UptoSaid'. A law counts once. -/
mutual
def uptoBulk {H : Type} : DataW H → Nat
  | .lit (.string bytes) => bytes.length + 1
  | .lit _ => 1
  | .nil => 1
  | .ptr d => uptoBulk d + 1
  | .slice elems spare => uptoBulkAll elems + uptoBulkAll spare + 1
  | .agg parts => uptoBulkAll parts + 1
  | .iface _ d => uptoBulk d + 1
  | .map entries => uptoBulkEntries entries + 1
  | .held _ => 1
def uptoBulkAll {H : Type} : List (DataW H) → Nat
  | [] => 0
  | d :: r => uptoBulk d + uptoBulkAll r
def uptoBulkEntries {H : Type} : List (Lit × DataW H) → Nat
  | [] => 0
  | x :: r => uptoBulkEntry x + uptoBulkEntries r
def uptoBulkEntry {H : Type} : Lit × DataW H → Nat
  | (.string bytes, d) => bytes.length + uptoBulk d + 1
  | (_, d) => uptoBulk d + 1
 end
def uptoSmall : (H : Type) → List (DataW H) → Bool := fun _ ds => decide (uptoBulkAll ds ≤ 1048576)
def OpenSpec.upto (s : _root_.Go.ChangeSpec) : _root_.Go.OpenSpec := { _root_.Go.OpenSpec.ofChange s with cond := some uptoSmall }

/-- 'deliberationlaw11.LabellingLegal', WHERE WHAT IT READS IS OF BULK AT MOST 1048576: true; the input reads as it did. -/
def labellingLegalUptoRow : OpenClaim := { program := "ytbahfcefplgigaa", sum := "ada4b83f7bebf867527aa7754370e56337a32443b61166f6279dd9c8b9d16fbc", func := "deliberation/deliberationlaw11.LabellingLegal", spec := "labellingLegal", unfollowed := true, recurses := true, apart := false, narrowed := true }
def LabellingLegalUptoSaid : Prop := labellingLegalUptoRow.holds Try.pinned (OpenSpec.upto labellingLegalSpec)

/-- 'deliberationlaw11.LabellingSets', WHERE WHAT IT READS IS OF BULK AT MOST 1048576: true; the input reads as it did. -/
def labellingSetsUptoRow : OpenClaim := { program := "ytbahfcefplgigaa", sum := "ada4b83f7bebf867527aa7754370e56337a32443b61166f6279dd9c8b9d16fbc", func := "deliberation/deliberationlaw11.LabellingSets", spec := "labellingSets", unfollowed := true, recurses := true, apart := false, narrowed := true }
def LabellingSetsUptoSaid : Prop := labellingSetsUptoRow.holds Try.pinned (OpenSpec.upto labellingSetsSpec)

/-- 'deliberationlaw11.LabellingOrders', WHERE WHAT IT READS IS OF BULK AT MOST 1048576: true; the input reads as it did. -/
def labellingOrdersUptoRow : OpenClaim := { program := "ytbahfcefplgigaa", sum := "ada4b83f7bebf867527aa7754370e56337a32443b61166f6279dd9c8b9d16fbc", func := "deliberation/deliberationlaw11.LabellingOrders", spec := "labellingOrders", unfollowed := true, recurses := true, apart := false, narrowed := true }
def LabellingOrdersUptoSaid : Prop := labellingOrdersUptoRow.holds Try.pinned (OpenSpec.upto labellingOrdersSpec)

/-- 'deliberationlaw11.LabellingLattice', WHERE WHAT IT READS IS OF BULK AT MOST 1048576: true; the input reads as it did. -/
def labellingLatticeUptoRow : OpenClaim := { program := "ytbahfcefplgigaa", sum := "ada4b83f7bebf867527aa7754370e56337a32443b61166f6279dd9c8b9d16fbc", func := "deliberation/deliberationlaw11.LabellingLattice", spec := "labellingLattice", unfollowed := true, recurses := true, apart := false, narrowed := true }
def LabellingLatticeUptoSaid : Prop := labellingLatticeUptoRow.holds Try.pinned (OpenSpec.upto labellingLatticeSpec)

/-- 'deliberationlaw11.LabellingComplete', WHERE WHAT IT READS IS OF BULK AT MOST 1048576: true; the input reads as it did. -/
def labellingCompleteUptoRow : OpenClaim := { program := "ytbahfcefplgigaa", sum := "ada4b83f7bebf867527aa7754370e56337a32443b61166f6279dd9c8b9d16fbc", func := "deliberation/deliberationlaw11.LabellingComplete", spec := "labellingComplete", unfollowed := true, recurses := true, apart := false, narrowed := true }
def LabellingCompleteUptoSaid : Prop := labellingCompleteUptoRow.holds Try.pinned (OpenSpec.upto labellingCompleteSpec)

/-- 'deliberationlaw11.LabellingChanges', WHERE WHAT IT READS IS OF BULK AT MOST 1048576: true; the input reads as it did. -/
def labellingChangesUptoRow : OpenClaim := { program := "ytbahfcefplgigaa", sum := "ada4b83f7bebf867527aa7754370e56337a32443b61166f6279dd9c8b9d16fbc", func := "deliberation/deliberationlaw11.LabellingChanges", spec := "labellingChanges", unfollowed := true, recurses := true, apart := false, narrowed := true }
def LabellingChangesUptoSaid : Prop := labellingChangesUptoRow.holds Try.pinned (OpenSpec.upto labellingChangesSpec)

end Rows
end Go.Proofs.Ytbahfcefplgigaa
