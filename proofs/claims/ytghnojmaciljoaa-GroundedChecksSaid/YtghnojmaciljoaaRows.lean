/-
  No cell of these rows narrows 'for every input' (looked for: loops, veiled, ifaces, maps, wideKeys, modest, calm, conditions, laid).
  DERIVED. THE GIVEN ROWS OF THIS SEAT. 5 by the template 'for every input the law returns true; each argument reads behind the call as it read before'; 0 by the template 'total and deterministic' (their statements: YtghnojmaciljoaaTotals.lean).
  GIVEN WITH THE SEED: the statements are not yours to turn. If you find one false, say at which input.
  Laid BY PROGRAM, IN A SANDBOX (cutbox-rows.mjs): the forced cells as the released guide's own fill.sh prints them over the translation 124087387e9ab2c8… (all of the seat's roots in one cut). By AI agents, Wed Nov 11 2026. No macro, syntax, notation, axiom, sorry.
-/
import Derived.Test.YtghnojmaciljoaaChecked
import GoSem.Claim
import GoSem.ClaimJoined
import GoSem.ClaimMapViews
import Derived.JoinedTies
import Derived.KernelRfl
namespace Go.Proofs.Ytghnojmaciljoaa
/- THE CELL 'sum', in the pinned program and in every row, IS THE sha256 OF THE DUMP (.gsa) THAT YtghnojmaciljoaaProg.lean LOADS. Nothing in Lean hashes anything: it is a label: what it is worth is what the hold of that sum in a sandbox is worth. -/
noncomputable def Try.pinned : Pinned := { name := "ytghnojmaciljoaa", sum := "124087387e9ab2c89f0baccbf1b0017fdb7128068626c73781afe277b1cab58e", checked := Try.checked }
namespace Rows
def none {H : Type} : Left H := { results := [], args := [] }

/-- 'deliberationlaw12.GroundedLabels': WHATEVER THE INPUT: true; the input reads as it did. -/
def groundedLabelsSpec : ChangeSpec := { name := "groundedLabels", fn := fun _ => fun
  | [d] => { results := [.lit (.bool true)], args := [d] }
  | _ => none }
def groundedLabelsRow : OpenClaim := { program := "ytghnojmaciljoaa", sum := "124087387e9ab2c89f0baccbf1b0017fdb7128068626c73781afe277b1cab58e", func := "deliberation/deliberationlaw12.GroundedLabels", spec := "groundedLabels", unfollowed := true, recurses := true, apart := false }
def GroundedLabelsSaid : Prop := groundedLabelsRow.holds Try.pinned (OpenSpec.ofChange groundedLabelsSpec)

/-- ITS FALSE NEIGHBOUR: 'it returns false'. Refute it at one input. -/
def groundedLabelsWrong : ChangeSpec := { name := "groundedLabels", fn := fun _ => fun
  | [d] => { results := [.lit (.bool false)], args := [d] }
  | _ => none }
def GroundedLabelsWrongFalsely : Prop := groundedLabelsRow.holds Try.pinned (OpenSpec.ofChange groundedLabelsWrong)

/-- 'deliberationlaw12.GroundedChecks': WHATEVER THE INPUT: true; the input reads as it did. -/
def groundedChecksSpec : ChangeSpec := { name := "groundedChecks", fn := fun _ => fun
  | [d1, d2, d3, d4] => { results := [.lit (.bool true)], args := [d1, d2, d3, d4] }
  | _ => none }
def groundedChecksRow : OpenClaim := { program := "ytghnojmaciljoaa", sum := "124087387e9ab2c89f0baccbf1b0017fdb7128068626c73781afe277b1cab58e", func := "deliberation/deliberationlaw12.GroundedChecks", spec := "groundedChecks", unfollowed := true, recurses := true, apart := false }
def GroundedChecksSaid : Prop := groundedChecksRow.holds Try.pinned (OpenSpec.ofChange groundedChecksSpec)

/-- ITS FALSE NEIGHBOUR: 'it returns false'. Refute it at one input. -/
def groundedChecksWrong : ChangeSpec := { name := "groundedChecks", fn := fun _ => fun
  | [d1, d2, d3, d4] => { results := [.lit (.bool false)], args := [d1, d2, d3, d4] }
  | _ => none }
def GroundedChecksWrongFalsely : Prop := groundedChecksRow.holds Try.pinned (OpenSpec.ofChange groundedChecksWrong)

/-- 'deliberationlaw12.GroundedLeast': WHATEVER THE INPUT: true; the input reads as it did. -/
def groundedLeastSpec : ChangeSpec := { name := "groundedLeast", fn := fun _ => fun
  | [d] => { results := [.lit (.bool true)], args := [d] }
  | _ => none }
def groundedLeastRow : OpenClaim := { program := "ytghnojmaciljoaa", sum := "124087387e9ab2c89f0baccbf1b0017fdb7128068626c73781afe277b1cab58e", func := "deliberation/deliberationlaw12.GroundedLeast", spec := "groundedLeast", unfollowed := true, recurses := true, apart := false }
def GroundedLeastSaid : Prop := groundedLeastRow.holds Try.pinned (OpenSpec.ofChange groundedLeastSpec)

/-- ITS FALSE NEIGHBOUR: 'it returns false'. Refute it at one input. -/
def groundedLeastWrong : ChangeSpec := { name := "groundedLeast", fn := fun _ => fun
  | [d] => { results := [.lit (.bool false)], args := [d] }
  | _ => none }
def GroundedLeastWrongFalsely : Prop := groundedLeastRow.holds Try.pinned (OpenSpec.ofChange groundedLeastWrong)

/-- 'deliberationlaw12.GroundedProves': WHATEVER THE INPUT: true; the input reads as it did. -/
def groundedProvesSpec : ChangeSpec := { name := "groundedProves", fn := fun _ => fun
  | [d1, d2] => { results := [.lit (.bool true)], args := [d1, d2] }
  | _ => none }
def groundedProvesRow : OpenClaim := { program := "ytghnojmaciljoaa", sum := "124087387e9ab2c89f0baccbf1b0017fdb7128068626c73781afe277b1cab58e", func := "deliberation/deliberationlaw12.GroundedProves", spec := "groundedProves", unfollowed := true, recurses := true, apart := false }
def GroundedProvesSaid : Prop := groundedProvesRow.holds Try.pinned (OpenSpec.ofChange groundedProvesSpec)

/-- ITS FALSE NEIGHBOUR: 'it returns false'. Refute it at one input. -/
def groundedProvesWrong : ChangeSpec := { name := "groundedProves", fn := fun _ => fun
  | [d1, d2] => { results := [.lit (.bool false)], args := [d1, d2] }
  | _ => none }
def GroundedProvesWrongFalsely : Prop := groundedProvesRow.holds Try.pinned (OpenSpec.ofChange groundedProvesWrong)

/-- 'deliberationlaw12.GroundedAcyclic': WHATEVER THE INPUT: true; the input reads as it did. -/
def groundedAcyclicSpec : ChangeSpec := { name := "groundedAcyclic", fn := fun _ => fun
  | [d] => { results := [.lit (.bool true)], args := [d] }
  | _ => none }
def groundedAcyclicRow : OpenClaim := { program := "ytghnojmaciljoaa", sum := "124087387e9ab2c89f0baccbf1b0017fdb7128068626c73781afe277b1cab58e", func := "deliberation/deliberationlaw12.GroundedAcyclic", spec := "groundedAcyclic", unfollowed := true, recurses := true, apart := false }
def GroundedAcyclicSaid : Prop := groundedAcyclicRow.holds Try.pinned (OpenSpec.ofChange groundedAcyclicSpec)

/-- ITS FALSE NEIGHBOUR: 'it returns false'. Refute it at one input. -/
def groundedAcyclicWrong : ChangeSpec := { name := "groundedAcyclic", fn := fun _ => fun
  | [d] => { results := [.lit (.bool false)], args := [d] }
  | _ => none }
def GroundedAcyclicWrongFalsely : Prop := groundedAcyclicRow.holds Try.pinned (OpenSpec.ofChange groundedAcyclicWrong)

/- THE SECOND FORM. 'bulk': how many values and letters a reading holds, each counted each time it is reached (what is shared counts as often as it is met; a slice's spare places count too). A statement '..UptoSaid' is the law's where the arguments, and the package variables that the reading takes, are together of bulk at most 1048576: NARROWER than '..Said'. Prove '..Said' where nothing that the law and all that it calls make is longer than what came in: it says more and counts as full. Else prove '..UptoSaid'. A law counts once. -/
mutual
def uptoBulk {H : Type} : DataW H → Nat
  | .lit (.string bytes) => bytes.length + 1
  | .lit _ => 1
  | .nil => 1
  | .ptr d => uptoBulk d + 1
  | .slice elems spare => uptoBulkAll elems + uptoBulkAll spare + 1
  | .agg parts => uptoBulkAll parts + 1
  | .iface _ d => uptoBulk d + 1
  | .map entries => uptoBulkEntries entries + 1
  | .held _ => 1
def uptoBulkAll {H : Type} : List (DataW H) → Nat
  | [] => 0
  | d :: r => uptoBulk d + uptoBulkAll r
def uptoBulkEntries {H : Type} : List (Lit × DataW H) → Nat
  | [] => 0
  | x :: r => uptoBulkEntry x + uptoBulkEntries r
def uptoBulkEntry {H : Type} : Lit × DataW H → Nat
  | (.string bytes, d) => bytes.length + uptoBulk d + 1
  | (_, d) => uptoBulk d + 1
 end
def uptoSmall : (H : Type) → List (DataW H) → Bool := fun _ ds => decide (uptoBulkAll ds ≤ 1048576)
def OpenSpec.upto (s : _root_.Go.ChangeSpec) : _root_.Go.OpenSpec := { _root_.Go.OpenSpec.ofChange s with cond := some uptoSmall }

/-- 'deliberationlaw12.GroundedLabels', WHERE WHAT IT READS IS OF BULK AT MOST 1048576: true; the input reads as it did. -/
def groundedLabelsUptoRow : OpenClaim := { program := "ytghnojmaciljoaa", sum := "124087387e9ab2c89f0baccbf1b0017fdb7128068626c73781afe277b1cab58e", func := "deliberation/deliberationlaw12.GroundedLabels", spec := "groundedLabels", unfollowed := true, recurses := true, apart := false, narrowed := true }
def GroundedLabelsUptoSaid : Prop := groundedLabelsUptoRow.holds Try.pinned (OpenSpec.upto groundedLabelsSpec)

/-- 'deliberationlaw12.GroundedChecks', WHERE WHAT IT READS IS OF BULK AT MOST 1048576: true; the input reads as it did. -/
def groundedChecksUptoRow : OpenClaim := { program := "ytghnojmaciljoaa", sum := "124087387e9ab2c89f0baccbf1b0017fdb7128068626c73781afe277b1cab58e", func := "deliberation/deliberationlaw12.GroundedChecks", spec := "groundedChecks", unfollowed := true, recurses := true, apart := false, narrowed := true }
def GroundedChecksUptoSaid : Prop := groundedChecksUptoRow.holds Try.pinned (OpenSpec.upto groundedChecksSpec)

/-- 'deliberationlaw12.GroundedLeast', WHERE WHAT IT READS IS OF BULK AT MOST 1048576: true; the input reads as it did. -/
def groundedLeastUptoRow : OpenClaim := { program := "ytghnojmaciljoaa", sum := "124087387e9ab2c89f0baccbf1b0017fdb7128068626c73781afe277b1cab58e", func := "deliberation/deliberationlaw12.GroundedLeast", spec := "groundedLeast", unfollowed := true, recurses := true, apart := false, narrowed := true }
def GroundedLeastUptoSaid : Prop := groundedLeastUptoRow.holds Try.pinned (OpenSpec.upto groundedLeastSpec)

/-- 'deliberationlaw12.GroundedProves', WHERE WHAT IT READS IS OF BULK AT MOST 1048576: true; the input reads as it did. -/
def groundedProvesUptoRow : OpenClaim := { program := "ytghnojmaciljoaa", sum := "124087387e9ab2c89f0baccbf1b0017fdb7128068626c73781afe277b1cab58e", func := "deliberation/deliberationlaw12.GroundedProves", spec := "groundedProves", unfollowed := true, recurses := true, apart := false, narrowed := true }
def GroundedProvesUptoSaid : Prop := groundedProvesUptoRow.holds Try.pinned (OpenSpec.upto groundedProvesSpec)

/-- 'deliberationlaw12.GroundedAcyclic', WHERE WHAT IT READS IS OF BULK AT MOST 1048576: true; the input reads as it did. -/
def groundedAcyclicUptoRow : OpenClaim := { program := "ytghnojmaciljoaa", sum := "124087387e9ab2c89f0baccbf1b0017fdb7128068626c73781afe277b1cab58e", func := "deliberation/deliberationlaw12.GroundedAcyclic", spec := "groundedAcyclic", unfollowed := true, recurses := true, apart := false, narrowed := true }
def GroundedAcyclicUptoSaid : Prop := groundedAcyclicUptoRow.holds Try.pinned (OpenSpec.upto groundedAcyclicSpec)

end Rows
end Go.Proofs.Ytghnojmaciljoaa
