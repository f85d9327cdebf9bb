/-
  NARROWER THAN 'FOR EVERY INPUT', by the rows' own cells (each row's printed sentence says how): FormulaValues: loops, laid · WorldSets: laid · WorldModels: loops, laid · WorldTheories: laid.
  DERIVED. THE GIVEN ROWS OF THIS SEAT. 4 by the template 'for every input the law returns true; each argument reads behind the call as it read before'; 0 by the template 'total and deterministic' (their statements: YtilkpjcbmllgmaaGreatDoorTotals.lean).
  GIVEN WITH THE SEED: the statements are not yours to turn. If you find one false, say at which input.
  Laid BY PROGRAM, IN A SANDBOX (cutbox-rows.mjs): the forced cells as the released guide's own fill.sh prints them over the translation e9703ccca70fd9a3… (all of the seat's roots in one cut). By AI agents, Wed Nov 11 2026. No macro, syntax, notation, axiom, sorry.
-/
import Derived.Test.YtilkpjcbmllgmaaGreatDoorChecked
import GoSem.Claim
import GoSem.ClaimJoined
import GoSem.ClaimMapViews
import Derived.JoinedTies
import Derived.KernelRfl
namespace Go.Proofs.YtilkpjcbmllgmaaGreatDoor
/- THE CELL 'sum', in the pinned program and in every row, IS THE sha256 OF THE DUMP (.gsa) THAT YtilkpjcbmllgmaaGreatDoorProg.lean LOADS. Nothing in Lean hashes anything: it is a label: what it is worth is what the hold of that sum in a sandbox is worth. -/
noncomputable def Tryz.pinned : Pinned := { name := "ytilkpjcbmllgmaagreatdoor", sum := "e9703ccca70fd9a3a74bd8da9227f5300d40ee4f550292806f55a02aa12102ee", checked := Tryz.checked }
namespace Rows
def none {H : Type} : Left H := { results := [], args := [] }

/- WHAT THE LISTED PACKAGE-LEVEL VARIABLES READ AS WHEN THE CALL BEGINS. Each datum BY PROGRAM (the guide's laid-datum.mjs) off the statement by which the dump's own 'gosem.cut.vars' lays the variable. In a bare row this is a premise. The card (YtilkpjcbmllgmaaGreatDoorCards.lean) ties it to the program's text. -/
def laid_deliberation_formula_signs {H : Type} : DataW H := .agg [.lit (.string [60, 45, 62]), .lit (.string [45, 62]), .lit (.string [126]), .lit (.string [38]), .lit (.string [124]), .lit (.string [40]), .lit (.string [41])]

/-- 'deliberationlaw02.FormulaValues': WHATEVER THE INPUT: true; the input reads as it did. -/
def formulaValuesSpec : ChangeSpec := { name := "formulaValues", fn := fun _ => fun
  | [d1, d2, d3, d4, d5] => { results := [.lit (.bool true)], args := [d1, d2, d3, d4, d5] }
  | _ => none }
def formulaValuesRow : OpenClaim := { program := "ytilkpjcbmllgmaagreatdoor", sum := "e9703ccca70fd9a3a74bd8da9227f5300d40ee4f550292806f55a02aa12102ee", func := "deliberation/deliberationlaw02.FormulaValues", spec := "formulaValues", inPlace := ["internal/abi.NoEscape", "internal/bytealg.MakeNoZero"], unfollowed := true, recurses := true, named := ["deliberation/formula.signs"], loops := true, apart := false, laid := [("deliberation/formula.signs", laid_deliberation_formula_signs)] }
def FormulaValuesSaid : Prop := formulaValuesRow.holds Tryz.pinned (OpenSpec.ofChange formulaValuesSpec)

/-- ITS FALSE NEIGHBOUR: 'it returns false'. Refute it at one input. -/
def formulaValuesWrong : ChangeSpec := { name := "formulaValues", fn := fun _ => fun
  | [d1, d2, d3, d4, d5] => { results := [.lit (.bool false)], args := [d1, d2, d3, d4, d5] }
  | _ => none }
def FormulaValuesWrongFalsely : Prop := formulaValuesRow.holds Tryz.pinned (OpenSpec.ofChange formulaValuesWrong)

/-- 'deliberationlaw03.WorldSets': WHATEVER THE INPUT: true; the input reads as it did. -/
def worldSetsSpec : ChangeSpec := { name := "worldSets", fn := fun _ => fun
  | [d1, d2, d3, d4] => { results := [.lit (.bool true)], args := [d1, d2, d3, d4] }
  | _ => none }
def worldSetsRow : OpenClaim := { program := "ytilkpjcbmllgmaagreatdoor", sum := "e9703ccca70fd9a3a74bd8da9227f5300d40ee4f550292806f55a02aa12102ee", func := "deliberation/deliberationlaw03.WorldSets", spec := "worldSets", inPlace := ["internal/abi.NoEscape", "internal/bytealg.MakeNoZero"], unfollowed := true, recurses := true, named := ["deliberation/formula.signs"], apart := false, laid := [("deliberation/formula.signs", laid_deliberation_formula_signs)] }
def WorldSetsSaid : Prop := worldSetsRow.holds Tryz.pinned (OpenSpec.ofChange worldSetsSpec)

/-- ITS FALSE NEIGHBOUR: 'it returns false'. Refute it at one input. -/
def worldSetsWrong : ChangeSpec := { name := "worldSets", fn := fun _ => fun
  | [d1, d2, d3, d4] => { results := [.lit (.bool false)], args := [d1, d2, d3, d4] }
  | _ => none }
def WorldSetsWrongFalsely : Prop := worldSetsRow.holds Tryz.pinned (OpenSpec.ofChange worldSetsWrong)

/-- 'deliberationlaw03.WorldModels': WHATEVER THE INPUT: true; the input reads as it did. -/
def worldModelsSpec : ChangeSpec := { name := "worldModels", fn := fun _ => fun
  | [d1, d2, d3] => { results := [.lit (.bool true)], args := [d1, d2, d3] }
  | _ => none }
def worldModelsRow : OpenClaim := { program := "ytilkpjcbmllgmaagreatdoor", sum := "e9703ccca70fd9a3a74bd8da9227f5300d40ee4f550292806f55a02aa12102ee", func := "deliberation/deliberationlaw03.WorldModels", spec := "worldModels", inPlace := ["internal/abi.NoEscape", "internal/bytealg.MakeNoZero"], unfollowed := true, recurses := true, named := ["deliberation/formula.signs"], loops := true, apart := false, laid := [("deliberation/formula.signs", laid_deliberation_formula_signs)] }
def WorldModelsSaid : Prop := worldModelsRow.holds Tryz.pinned (OpenSpec.ofChange worldModelsSpec)

/-- ITS FALSE NEIGHBOUR: 'it returns false'. Refute it at one input. -/
def worldModelsWrong : ChangeSpec := { name := "worldModels", fn := fun _ => fun
  | [d1, d2, d3] => { results := [.lit (.bool false)], args := [d1, d2, d3] }
  | _ => none }
def WorldModelsWrongFalsely : Prop := worldModelsRow.holds Tryz.pinned (OpenSpec.ofChange worldModelsWrong)

/-- 'deliberationlaw03.WorldTheories': WHATEVER THE INPUT: true; the input reads as it did. -/
def worldTheoriesSpec : ChangeSpec := { name := "worldTheories", fn := fun _ => fun
  | [d1, d2, d3] => { results := [.lit (.bool true)], args := [d1, d2, d3] }
  | _ => none }
def worldTheoriesRow : OpenClaim := { program := "ytilkpjcbmllgmaagreatdoor", sum := "e9703ccca70fd9a3a74bd8da9227f5300d40ee4f550292806f55a02aa12102ee", func := "deliberation/deliberationlaw03.WorldTheories", spec := "worldTheories", inPlace := ["internal/abi.NoEscape", "internal/bytealg.MakeNoZero"], unfollowed := true, recurses := true, named := ["deliberation/formula.signs"], apart := false, laid := [("deliberation/formula.signs", laid_deliberation_formula_signs)] }
def WorldTheoriesSaid : Prop := worldTheoriesRow.holds Tryz.pinned (OpenSpec.ofChange worldTheoriesSpec)

/-- ITS FALSE NEIGHBOUR: 'it returns false'. Refute it at one input. -/
def worldTheoriesWrong : ChangeSpec := { name := "worldTheories", fn := fun _ => fun
  | [d1, d2, d3] => { results := [.lit (.bool false)], args := [d1, d2, d3] }
  | _ => none }
def WorldTheoriesWrongFalsely : Prop := worldTheoriesRow.holds Tryz.pinned (OpenSpec.ofChange worldTheoriesWrong)

/- THE SECOND FORM. 'bulk': how many values and letters a reading holds, each counted each time it is reached (what is shared counts as often as it is met; a slice's spare places count too). A statement '..UptoSaid' is the law's where the arguments, and the package variables that the reading takes, are together of bulk at most 1048576: NARROWER than '..Said'. Prove '..Said' where nothing that the law and all that it calls make is longer than what came in: it says more and counts as full. Else prove '..UptoSaid'. A law counts once. -/
mutual
def uptoBulk {H : Type} : DataW H → Nat
  | .lit (.string bytes) => bytes.length + 1
  | .lit _ => 1
  | .nil => 1
  | .ptr d => uptoBulk d + 1
  | .slice elems spare => uptoBulkAll elems + uptoBulkAll spare + 1
  | .agg parts => uptoBulkAll parts + 1
  | .iface _ d => uptoBulk d + 1
  | .map entries => uptoBulkEntries entries + 1
  | .held _ => 1
def uptoBulkAll {H : Type} : List (DataW H) → Nat
  | [] => 0
  | d :: r => uptoBulk d + uptoBulkAll r
def uptoBulkEntries {H : Type} : List (Lit × DataW H) → Nat
  | [] => 0
  | x :: r => uptoBulkEntry x + uptoBulkEntries r
def uptoBulkEntry {H : Type} : Lit × DataW H → Nat
  | (.string bytes, d) => bytes.length + uptoBulk d + 1
  | (_, d) => uptoBulk d + 1
 end
def uptoSmall : (H : Type) → List (DataW H) → Bool := fun _ ds => decide (uptoBulkAll ds ≤ 1048576)
def OpenSpec.upto (s : _root_.Go.ChangeSpec) : _root_.Go.OpenSpec := { _root_.Go.OpenSpec.ofChange s with cond := some uptoSmall }

/-- 'deliberationlaw02.FormulaValues', WHERE WHAT IT READS IS OF BULK AT MOST 1048576: true; the input reads as it did. -/
def formulaValuesUptoRow : OpenClaim := { program := "ytilkpjcbmllgmaagreatdoor", sum := "e9703ccca70fd9a3a74bd8da9227f5300d40ee4f550292806f55a02aa12102ee", func := "deliberation/deliberationlaw02.FormulaValues", spec := "formulaValues", inPlace := ["internal/abi.NoEscape", "internal/bytealg.MakeNoZero"], unfollowed := true, recurses := true, named := ["deliberation/formula.signs"], loops := true, apart := false, laid := [("deliberation/formula.signs", laid_deliberation_formula_signs)], narrowed := true }
def FormulaValuesUptoSaid : Prop := formulaValuesUptoRow.holds Tryz.pinned (OpenSpec.upto formulaValuesSpec)

/-- 'deliberationlaw03.WorldSets', WHERE WHAT IT READS IS OF BULK AT MOST 1048576: true; the input reads as it did. -/
def worldSetsUptoRow : OpenClaim := { program := "ytilkpjcbmllgmaagreatdoor", sum := "e9703ccca70fd9a3a74bd8da9227f5300d40ee4f550292806f55a02aa12102ee", func := "deliberation/deliberationlaw03.WorldSets", spec := "worldSets", inPlace := ["internal/abi.NoEscape", "internal/bytealg.MakeNoZero"], unfollowed := true, recurses := true, named := ["deliberation/formula.signs"], apart := false, laid := [("deliberation/formula.signs", laid_deliberation_formula_signs)], narrowed := true }
def WorldSetsUptoSaid : Prop := worldSetsUptoRow.holds Tryz.pinned (OpenSpec.upto worldSetsSpec)

/-- 'deliberationlaw03.WorldModels', WHERE WHAT IT READS IS OF BULK AT MOST 1048576: true; the input reads as it did. -/
def worldModelsUptoRow : OpenClaim := { program := "ytilkpjcbmllgmaagreatdoor", sum := "e9703ccca70fd9a3a74bd8da9227f5300d40ee4f550292806f55a02aa12102ee", func := "deliberation/deliberationlaw03.WorldModels", spec := "worldModels", inPlace := ["internal/abi.NoEscape", "internal/bytealg.MakeNoZero"], unfollowed := true, recurses := true, named := ["deliberation/formula.signs"], loops := true, apart := false, laid := [("deliberation/formula.signs", laid_deliberation_formula_signs)], narrowed := true }
def WorldModelsUptoSaid : Prop := worldModelsUptoRow.holds Tryz.pinned (OpenSpec.upto worldModelsSpec)

/-- 'deliberationlaw03.WorldTheories', WHERE WHAT IT READS IS OF BULK AT MOST 1048576: true; the input reads as it did. -/
def worldTheoriesUptoRow : OpenClaim := { program := "ytilkpjcbmllgmaagreatdoor", sum := "e9703ccca70fd9a3a74bd8da9227f5300d40ee4f550292806f55a02aa12102ee", func := "deliberation/deliberationlaw03.WorldTheories", spec := "worldTheories", inPlace := ["internal/abi.NoEscape", "internal/bytealg.MakeNoZero"], unfollowed := true, recurses := true, named := ["deliberation/formula.signs"], apart := false, laid := [("deliberation/formula.signs", laid_deliberation_formula_signs)], narrowed := true }
def WorldTheoriesUptoSaid : Prop := worldTheoriesUptoRow.holds Tryz.pinned (OpenSpec.upto worldTheoriesSpec)

end Rows
end Go.Proofs.YtilkpjcbmllgmaaGreatDoor
