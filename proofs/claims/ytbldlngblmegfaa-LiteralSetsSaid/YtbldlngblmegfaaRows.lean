/-
  No cell of these rows narrows 'for every input' (looked for: loops, veiled, ifaces, maps, wideKeys, modest, calm, conditions, laid).
  DERIVED. THE GIVEN ROWS OF THIS SEAT. 6 by the template 'for every input the law returns true; each argument reads behind the call as it read before'; 0 by the template 'total and deterministic' (their statements: YtbldlngblmegfaaTotals.lean).
  GIVEN WITH THE SEED: the statements are not yours to turn. If you find one false, say at which input.
  Laid BY PROGRAM, IN A SANDBOX (cutbox-rows.mjs): the forced cells as the released guide's own fill.sh prints them over the translation aacad9499b3abf20… (all of the seat's roots in one cut). By AI agents, Wed Nov 11 2026. No macro, syntax, notation, axiom, sorry.
-/
import Derived.Test.YtbldlngblmegfaaChecked
import GoSem.Claim
import GoSem.ClaimJoined
import GoSem.ClaimMapViews
import Derived.JoinedTies
import Derived.KernelRfl
namespace Go.Proofs.Ytbldlngblmegfaa
/- THE CELL 'sum', in the pinned program and in every row, IS THE sha256 OF THE DUMP (.gsa) THAT YtbldlngblmegfaaProg.lean LOADS. Nothing in Lean hashes anything: it is a label: what it is worth is what the hold of that sum in a sandbox is worth. -/
noncomputable def Try.pinned : Pinned := { name := "ytbldlngblmegfaa", sum := "aacad9499b3abf20e7cb2ba31dcef3d4d0f9c5c3e4824f4a484293ae8857430d", checked := Try.checked }
namespace Rows
def none {H : Type} : Left H := { results := [], args := [] }

/-- 'deliberationlaw01.LiteralTexts': WHATEVER THE INPUT: true; the input reads as it did. -/
def literalTextsSpec : ChangeSpec := { name := "literalTexts", fn := fun _ => fun
  | [d1, d2, d3] => { results := [.lit (.bool true)], args := [d1, d2, d3] }
  | _ => none }
def literalTextsRow : OpenClaim := { program := "ytbldlngblmegfaa", sum := "aacad9499b3abf20e7cb2ba31dcef3d4d0f9c5c3e4824f4a484293ae8857430d", func := "deliberation/deliberationlaw01.LiteralTexts", spec := "literalTexts", inPlace := ["internal/bytealg.abigen_runtime_cmpstring"], unfollowed := true, recurses := true, plainKeys := false, apart := false }
def LiteralTextsSaid : Prop := literalTextsRow.holds Try.pinned (OpenSpec.ofChange literalTextsSpec)

/-- ITS FALSE NEIGHBOUR: 'it returns false'. Refute it at one input. -/
def literalTextsWrong : ChangeSpec := { name := "literalTexts", fn := fun _ => fun
  | [d1, d2, d3] => { results := [.lit (.bool false)], args := [d1, d2, d3] }
  | _ => none }
def LiteralTextsWrongFalsely : Prop := literalTextsRow.holds Try.pinned (OpenSpec.ofChange literalTextsWrong)

/-- 'deliberationlaw01.LiteralOrder': WHATEVER THE INPUT: true; the input reads as it did. -/
def literalOrderSpec : ChangeSpec := { name := "literalOrder", fn := fun _ => fun
  | [d1, d2, d3, d4] => { results := [.lit (.bool true)], args := [d1, d2, d3, d4] }
  | _ => none }
def literalOrderRow : OpenClaim := { program := "ytbldlngblmegfaa", sum := "aacad9499b3abf20e7cb2ba31dcef3d4d0f9c5c3e4824f4a484293ae8857430d", func := "deliberation/deliberationlaw01.LiteralOrder", spec := "literalOrder", inPlace := ["internal/bytealg.abigen_runtime_cmpstring"], unfollowed := true, recurses := true, plainKeys := false, apart := false }
def LiteralOrderSaid : Prop := literalOrderRow.holds Try.pinned (OpenSpec.ofChange literalOrderSpec)

/-- ITS FALSE NEIGHBOUR: 'it returns false'. Refute it at one input. -/
def literalOrderWrong : ChangeSpec := { name := "literalOrder", fn := fun _ => fun
  | [d1, d2, d3, d4] => { results := [.lit (.bool false)], args := [d1, d2, d3, d4] }
  | _ => none }
def LiteralOrderWrongFalsely : Prop := literalOrderRow.holds Try.pinned (OpenSpec.ofChange literalOrderWrong)

/-- 'deliberationlaw01.LiteralSets': WHATEVER THE INPUT: true; the input reads as it did. -/
def literalSetsSpec : ChangeSpec := { name := "literalSets", fn := fun _ => fun
  | [d1, d2, d3] => { results := [.lit (.bool true)], args := [d1, d2, d3] }
  | _ => none }
def literalSetsRow : OpenClaim := { program := "ytbldlngblmegfaa", sum := "aacad9499b3abf20e7cb2ba31dcef3d4d0f9c5c3e4824f4a484293ae8857430d", func := "deliberation/deliberationlaw01.LiteralSets", spec := "literalSets", inPlace := ["internal/bytealg.abigen_runtime_cmpstring"], unfollowed := true, recurses := true, plainKeys := false, apart := false }
def LiteralSetsSaid : Prop := literalSetsRow.holds Try.pinned (OpenSpec.ofChange literalSetsSpec)

/-- ITS FALSE NEIGHBOUR: 'it returns false'. Refute it at one input. -/
def literalSetsWrong : ChangeSpec := { name := "literalSets", fn := fun _ => fun
  | [d1, d2, d3] => { results := [.lit (.bool false)], args := [d1, d2, d3] }
  | _ => none }
def LiteralSetsWrongFalsely : Prop := literalSetsRow.holds Try.pinned (OpenSpec.ofChange literalSetsWrong)

/-- 'deliberationlaw01.LiteralBack': WHATEVER THE INPUT: true; the input reads as it did. -/
def literalBackSpec : ChangeSpec := { name := "literalBack", fn := fun _ => fun
  | [d1, d2] => { results := [.lit (.bool true)], args := [d1, d2] }
  | _ => none }
def literalBackRow : OpenClaim := { program := "ytbldlngblmegfaa", sum := "aacad9499b3abf20e7cb2ba31dcef3d4d0f9c5c3e4824f4a484293ae8857430d", func := "deliberation/deliberationlaw01.LiteralBack", spec := "literalBack", inPlace := ["internal/bytealg.abigen_runtime_cmpstring"], unfollowed := true, recurses := true, plainKeys := false, apart := false }
def LiteralBackSaid : Prop := literalBackRow.holds Try.pinned (OpenSpec.ofChange literalBackSpec)

/-- ITS FALSE NEIGHBOUR: 'it returns false'. Refute it at one input. -/
def literalBackWrong : ChangeSpec := { name := "literalBack", fn := fun _ => fun
  | [d1, d2] => { results := [.lit (.bool false)], args := [d1, d2] }
  | _ => none }
def LiteralBackWrongFalsely : Prop := literalBackRow.holds Try.pinned (OpenSpec.ofChange literalBackWrong)

/-- 'deliberationlaw01.LiteralNormal': WHATEVER THE INPUT: true; the input reads as it did. -/
def literalNormalSpec : ChangeSpec := { name := "literalNormal", fn := fun _ => fun
  | [d1, d2] => { results := [.lit (.bool true)], args := [d1, d2] }
  | _ => none }
def literalNormalRow : OpenClaim := { program := "ytbldlngblmegfaa", sum := "aacad9499b3abf20e7cb2ba31dcef3d4d0f9c5c3e4824f4a484293ae8857430d", func := "deliberation/deliberationlaw01.LiteralNormal", spec := "literalNormal", inPlace := ["internal/bytealg.abigen_runtime_cmpstring"], unfollowed := true, recurses := true, plainKeys := false, apart := false }
def LiteralNormalSaid : Prop := literalNormalRow.holds Try.pinned (OpenSpec.ofChange literalNormalSpec)

/-- ITS FALSE NEIGHBOUR: 'it returns false'. Refute it at one input. -/
def literalNormalWrong : ChangeSpec := { name := "literalNormal", fn := fun _ => fun
  | [d1, d2] => { results := [.lit (.bool false)], args := [d1, d2] }
  | _ => none }
def LiteralNormalWrongFalsely : Prop := literalNormalRow.holds Try.pinned (OpenSpec.ofChange literalNormalWrong)

/-- 'deliberationlaw01.LiteralConsistent': WHATEVER THE INPUT: true; the input reads as it did. -/
def literalConsistentSpec : ChangeSpec := { name := "literalConsistent", fn := fun _ => fun
  | [d] => { results := [.lit (.bool true)], args := [d] }
  | _ => none }
def literalConsistentRow : OpenClaim := { program := "ytbldlngblmegfaa", sum := "aacad9499b3abf20e7cb2ba31dcef3d4d0f9c5c3e4824f4a484293ae8857430d", func := "deliberation/deliberationlaw01.LiteralConsistent", spec := "literalConsistent", inPlace := ["internal/bytealg.abigen_runtime_cmpstring"], unfollowed := true, recurses := true, plainKeys := false, apart := false }
def LiteralConsistentSaid : Prop := literalConsistentRow.holds Try.pinned (OpenSpec.ofChange literalConsistentSpec)

/-- ITS FALSE NEIGHBOUR: 'it returns false'. Refute it at one input. -/
def literalConsistentWrong : ChangeSpec := { name := "literalConsistent", fn := fun _ => fun
  | [d] => { results := [.lit (.bool false)], args := [d] }
  | _ => none }
def LiteralConsistentWrongFalsely : Prop := literalConsistentRow.holds Try.pinned (OpenSpec.ofChange literalConsistentWrong)

/- THE SECOND FORM. 'bulk': how many values and letters a reading holds, each counted each time it is reached (what is shared counts as often as it is met; a slice's spare places count too). A statement '..UptoSaid' is the law's where the arguments, and the package variables that the reading takes, are together of bulk at most 1048576: NARROWER than '..Said'. Prove '..Said' where nothing that the law and all that it calls make is longer than what came in: it says more and counts as full. Else prove '..UptoSaid'. A law counts once. -/
mutual
def uptoBulk {H : Type} : DataW H → Nat
  | .lit (.string bytes) => bytes.length + 1
  | .lit _ => 1
  | .nil => 1
  | .ptr d => uptoBulk d + 1
  | .slice elems spare => uptoBulkAll elems + uptoBulkAll spare + 1
  | .agg parts => uptoBulkAll parts + 1
  | .iface _ d => uptoBulk d + 1
  | .map entries => uptoBulkEntries entries + 1
  | .held _ => 1
def uptoBulkAll {H : Type} : List (DataW H) → Nat
  | [] => 0
  | d :: r => uptoBulk d + uptoBulkAll r
def uptoBulkEntries {H : Type} : List (Lit × DataW H) → Nat
  | [] => 0
  | x :: r => uptoBulkEntry x + uptoBulkEntries r
def uptoBulkEntry {H : Type} : Lit × DataW H → Nat
  | (.string bytes, d) => bytes.length + uptoBulk d + 1
  | (_, d) => uptoBulk d + 1
 end
def uptoSmall : (H : Type) → List (DataW H) → Bool := fun _ ds => decide (uptoBulkAll ds ≤ 1048576)
def OpenSpec.upto (s : _root_.Go.ChangeSpec) : _root_.Go.OpenSpec := { _root_.Go.OpenSpec.ofChange s with cond := some uptoSmall }

/-- 'deliberationlaw01.LiteralTexts', WHERE WHAT IT READS IS OF BULK AT MOST 1048576: true; the input reads as it did. -/
def literalTextsUptoRow : OpenClaim := { program := "ytbldlngblmegfaa", sum := "aacad9499b3abf20e7cb2ba31dcef3d4d0f9c5c3e4824f4a484293ae8857430d", func := "deliberation/deliberationlaw01.LiteralTexts", spec := "literalTexts", inPlace := ["internal/bytealg.abigen_runtime_cmpstring"], unfollowed := true, recurses := true, plainKeys := false, apart := false, narrowed := true }
def LiteralTextsUptoSaid : Prop := literalTextsUptoRow.holds Try.pinned (OpenSpec.upto literalTextsSpec)

/-- 'deliberationlaw01.LiteralOrder', WHERE WHAT IT READS IS OF BULK AT MOST 1048576: true; the input reads as it did. -/
def literalOrderUptoRow : OpenClaim := { program := "ytbldlngblmegfaa", sum := "aacad9499b3abf20e7cb2ba31dcef3d4d0f9c5c3e4824f4a484293ae8857430d", func := "deliberation/deliberationlaw01.LiteralOrder", spec := "literalOrder", inPlace := ["internal/bytealg.abigen_runtime_cmpstring"], unfollowed := true, recurses := true, plainKeys := false, apart := false, narrowed := true }
def LiteralOrderUptoSaid : Prop := literalOrderUptoRow.holds Try.pinned (OpenSpec.upto literalOrderSpec)

/-- 'deliberationlaw01.LiteralSets', WHERE WHAT IT READS IS OF BULK AT MOST 1048576: true; the input reads as it did. -/
def literalSetsUptoRow : OpenClaim := { program := "ytbldlngblmegfaa", sum := "aacad9499b3abf20e7cb2ba31dcef3d4d0f9c5c3e4824f4a484293ae8857430d", func := "deliberation/deliberationlaw01.LiteralSets", spec := "literalSets", inPlace := ["internal/bytealg.abigen_runtime_cmpstring"], unfollowed := true, recurses := true, plainKeys := false, apart := false, narrowed := true }
def LiteralSetsUptoSaid : Prop := literalSetsUptoRow.holds Try.pinned (OpenSpec.upto literalSetsSpec)

/-- 'deliberationlaw01.LiteralBack', WHERE WHAT IT READS IS OF BULK AT MOST 1048576: true; the input reads as it did. -/
def literalBackUptoRow : OpenClaim := { program := "ytbldlngblmegfaa", sum := "aacad9499b3abf20e7cb2ba31dcef3d4d0f9c5c3e4824f4a484293ae8857430d", func := "deliberation/deliberationlaw01.LiteralBack", spec := "literalBack", inPlace := ["internal/bytealg.abigen_runtime_cmpstring"], unfollowed := true, recurses := true, plainKeys := false, apart := false, narrowed := true }
def LiteralBackUptoSaid : Prop := literalBackUptoRow.holds Try.pinned (OpenSpec.upto literalBackSpec)

/-- 'deliberationlaw01.LiteralNormal', WHERE WHAT IT READS IS OF BULK AT MOST 1048576: true; the input reads as it did. -/
def literalNormalUptoRow : OpenClaim := { program := "ytbldlngblmegfaa", sum := "aacad9499b3abf20e7cb2ba31dcef3d4d0f9c5c3e4824f4a484293ae8857430d", func := "deliberation/deliberationlaw01.LiteralNormal", spec := "literalNormal", inPlace := ["internal/bytealg.abigen_runtime_cmpstring"], unfollowed := true, recurses := true, plainKeys := false, apart := false, narrowed := true }
def LiteralNormalUptoSaid : Prop := literalNormalUptoRow.holds Try.pinned (OpenSpec.upto literalNormalSpec)

/-- 'deliberationlaw01.LiteralConsistent', WHERE WHAT IT READS IS OF BULK AT MOST 1048576: true; the input reads as it did. -/
def literalConsistentUptoRow : OpenClaim := { program := "ytbldlngblmegfaa", sum := "aacad9499b3abf20e7cb2ba31dcef3d4d0f9c5c3e4824f4a484293ae8857430d", func := "deliberation/deliberationlaw01.LiteralConsistent", spec := "literalConsistent", inPlace := ["internal/bytealg.abigen_runtime_cmpstring"], unfollowed := true, recurses := true, plainKeys := false, apart := false, narrowed := true }
def LiteralConsistentUptoSaid : Prop := literalConsistentUptoRow.holds Try.pinned (OpenSpec.upto literalConsistentSpec)

end Rows
end Go.Proofs.Ytbldlngblmegfaa
