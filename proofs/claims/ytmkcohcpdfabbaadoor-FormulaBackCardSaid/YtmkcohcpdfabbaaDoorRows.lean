/-
  NARROWER THAN 'FOR EVERY INPUT', by the rows' own cells (each row's printed sentence says how): FormulaTexts: loops, laid · FormulaParses: laid · FormulaBack: laid · FormulaOwn: laid · WorldBack: laid · WorldAlgebra: laid · WorldForgets: laid · WorldEntails: laid.
  DERIVED. THE GIVEN ROWS OF THIS SEAT. 8 by the template 'for every input the law returns true; each argument reads behind the call as it read before'; 0 by the template 'total and deterministic' (their statements: YtmkcohcpdfabbaaDoorTotals.lean).
  GIVEN WITH THE SEED: the statements are not yours to turn. If you find one false, say at which input.
  Laid BY PROGRAM, IN A SANDBOX (cutbox-rows.mjs): the forced cells as the released guide's own fill.sh prints them over the translation 8e4f6922921a7d01… (all of the seat's roots in one cut). By AI agents, Wed Nov 11 2026. No macro, syntax, notation, axiom, sorry.
-/
import Derived.Test.YtmkcohcpdfabbaaDoorChecked
import GoSem.Claim
import GoSem.ClaimJoined
import GoSem.ClaimMapViews
import Derived.JoinedTies
import Derived.KernelRfl
namespace Go.Proofs.YtmkcohcpdfabbaaDoor
/- THE CELL 'sum', in the pinned program and in every row, IS THE sha256 OF THE DUMP (.gsa) THAT YtmkcohcpdfabbaaDoorProg.lean LOADS. Nothing in Lean hashes anything: it is a label: what it is worth is what the hold of that sum in a sandbox is worth. -/
noncomputable def Tryd.pinned : Pinned := { name := "ytmkcohcpdfabbaadoor", sum := "8e4f6922921a7d01467a163dbbdb12ae55b99c85abec7d142e98923fa4501a94", checked := Tryd.checked }
namespace Rows
def none {H : Type} : Left H := { results := [], args := [] }

/- WHAT THE LISTED PACKAGE-LEVEL VARIABLES READ AS WHEN THE CALL BEGINS. Each datum BY PROGRAM (the guide's laid-datum.mjs) off the statement by which the dump's own 'gosem.cut.vars' lays the variable. In a bare row this is a premise. The card (YtmkcohcpdfabbaaDoorCards.lean) ties it to the program's text. -/
def laid_deliberation_formula_signs {H : Type} : DataW H := .agg [.lit (.string [60, 45, 62]), .lit (.string [45, 62]), .lit (.string [126]), .lit (.string [38]), .lit (.string [124]), .lit (.string [40]), .lit (.string [41])]

/-- 'deliberationlaw02.FormulaTexts': WHATEVER THE INPUT: true; the input reads as it did. -/
def formulaTextsSpec : ChangeSpec := { name := "formulaTexts", fn := fun _ => fun
  | [d1, d2] => { results := [.lit (.bool true)], args := [d1, d2] }
  | _ => none }
def formulaTextsRow : OpenClaim := { program := "ytmkcohcpdfabbaadoor", sum := "8e4f6922921a7d01467a163dbbdb12ae55b99c85abec7d142e98923fa4501a94", func := "deliberation/deliberationlaw02.FormulaTexts", spec := "formulaTexts", inPlace := ["internal/abi.NoEscape", "internal/bytealg.MakeNoZero"], unfollowed := true, recurses := true, named := ["deliberation/formula.signs"], loops := true, apart := false, laid := [("deliberation/formula.signs", laid_deliberation_formula_signs)] }
def FormulaTextsSaid : Prop := formulaTextsRow.holds Tryd.pinned (OpenSpec.ofChange formulaTextsSpec)

/-- ITS FALSE NEIGHBOUR: 'it returns false'. Refute it at one input. -/
def formulaTextsWrong : ChangeSpec := { name := "formulaTexts", fn := fun _ => fun
  | [d1, d2] => { results := [.lit (.bool false)], args := [d1, d2] }
  | _ => none }
def FormulaTextsWrongFalsely : Prop := formulaTextsRow.holds Tryd.pinned (OpenSpec.ofChange formulaTextsWrong)

/-- 'deliberationlaw02.FormulaParses': WHATEVER THE INPUT: true; the input reads as it did. -/
def formulaParsesSpec : ChangeSpec := { name := "formulaParses", fn := fun _ => fun
  | [d1, d2, d3, d4] => { results := [.lit (.bool true)], args := [d1, d2, d3, d4] }
  | _ => none }
def formulaParsesRow : OpenClaim := { program := "ytmkcohcpdfabbaadoor", sum := "8e4f6922921a7d01467a163dbbdb12ae55b99c85abec7d142e98923fa4501a94", func := "deliberation/deliberationlaw02.FormulaParses", spec := "formulaParses", inPlace := ["internal/abi.NoEscape", "internal/bytealg.MakeNoZero"], unfollowed := true, recurses := true, named := ["deliberation/formula.signs"], apart := false, laid := [("deliberation/formula.signs", laid_deliberation_formula_signs)] }
def FormulaParsesSaid : Prop := formulaParsesRow.holds Tryd.pinned (OpenSpec.ofChange formulaParsesSpec)

/-- ITS FALSE NEIGHBOUR: 'it returns false'. Refute it at one input. -/
def formulaParsesWrong : ChangeSpec := { name := "formulaParses", fn := fun _ => fun
  | [d1, d2, d3, d4] => { results := [.lit (.bool false)], args := [d1, d2, d3, d4] }
  | _ => none }
def FormulaParsesWrongFalsely : Prop := formulaParsesRow.holds Tryd.pinned (OpenSpec.ofChange formulaParsesWrong)

/-- 'deliberationlaw02.FormulaBack': WHATEVER THE INPUT: true; the input reads as it did. -/
def formulaBackSpec : ChangeSpec := { name := "formulaBack", fn := fun _ => fun
  | [d1, d2] => { results := [.lit (.bool true)], args := [d1, d2] }
  | _ => none }
def formulaBackRow : OpenClaim := { program := "ytmkcohcpdfabbaadoor", sum := "8e4f6922921a7d01467a163dbbdb12ae55b99c85abec7d142e98923fa4501a94", func := "deliberation/deliberationlaw02.FormulaBack", spec := "formulaBack", inPlace := ["internal/abi.NoEscape", "internal/bytealg.MakeNoZero"], unfollowed := true, recurses := true, named := ["deliberation/formula.signs"], apart := false, laid := [("deliberation/formula.signs", laid_deliberation_formula_signs)] }
def FormulaBackSaid : Prop := formulaBackRow.holds Tryd.pinned (OpenSpec.ofChange formulaBackSpec)

/-- ITS FALSE NEIGHBOUR: 'it returns false'. Refute it at one input. -/
def formulaBackWrong : ChangeSpec := { name := "formulaBack", fn := fun _ => fun
  | [d1, d2] => { results := [.lit (.bool false)], args := [d1, d2] }
  | _ => none }
def FormulaBackWrongFalsely : Prop := formulaBackRow.holds Tryd.pinned (OpenSpec.ofChange formulaBackWrong)

/-- 'deliberationlaw02.FormulaOwn': WHATEVER THE INPUT: true; the input reads as it did. -/
def formulaOwnSpec : ChangeSpec := { name := "formulaOwn", fn := fun _ => fun
  | [d1, d2] => { results := [.lit (.bool true)], args := [d1, d2] }
  | _ => none }
def formulaOwnRow : OpenClaim := { program := "ytmkcohcpdfabbaadoor", sum := "8e4f6922921a7d01467a163dbbdb12ae55b99c85abec7d142e98923fa4501a94", func := "deliberation/deliberationlaw02.FormulaOwn", spec := "formulaOwn", inPlace := ["internal/abi.NoEscape", "internal/bytealg.MakeNoZero"], unfollowed := true, recurses := true, named := ["deliberation/formula.signs"], apart := false, laid := [("deliberation/formula.signs", laid_deliberation_formula_signs)] }
def FormulaOwnSaid : Prop := formulaOwnRow.holds Tryd.pinned (OpenSpec.ofChange formulaOwnSpec)

/-- ITS FALSE NEIGHBOUR: 'it returns false'. Refute it at one input. -/
def formulaOwnWrong : ChangeSpec := { name := "formulaOwn", fn := fun _ => fun
  | [d1, d2] => { results := [.lit (.bool false)], args := [d1, d2] }
  | _ => none }
def FormulaOwnWrongFalsely : Prop := formulaOwnRow.holds Tryd.pinned (OpenSpec.ofChange formulaOwnWrong)

/-- 'deliberationlaw03.WorldBack': WHATEVER THE INPUT: true; the input reads as it did. -/
def worldBackSpec : ChangeSpec := { name := "worldBack", fn := fun _ => fun
  | [d1, d2] => { results := [.lit (.bool true)], args := [d1, d2] }
  | _ => none }
def worldBackRow : OpenClaim := { program := "ytmkcohcpdfabbaadoor", sum := "8e4f6922921a7d01467a163dbbdb12ae55b99c85abec7d142e98923fa4501a94", func := "deliberation/deliberationlaw03.WorldBack", spec := "worldBack", inPlace := ["internal/abi.NoEscape", "internal/bytealg.MakeNoZero"], unfollowed := true, recurses := true, named := ["deliberation/formula.signs"], apart := false, laid := [("deliberation/formula.signs", laid_deliberation_formula_signs)] }
def WorldBackSaid : Prop := worldBackRow.holds Tryd.pinned (OpenSpec.ofChange worldBackSpec)

/-- ITS FALSE NEIGHBOUR: 'it returns false'. Refute it at one input. -/
def worldBackWrong : ChangeSpec := { name := "worldBack", fn := fun _ => fun
  | [d1, d2] => { results := [.lit (.bool false)], args := [d1, d2] }
  | _ => none }
def WorldBackWrongFalsely : Prop := worldBackRow.holds Tryd.pinned (OpenSpec.ofChange worldBackWrong)

/-- 'deliberationlaw03.WorldAlgebra': WHATEVER THE INPUT: true; the input reads as it did. -/
def worldAlgebraSpec : ChangeSpec := { name := "worldAlgebra", fn := fun _ => fun
  | [d] => { results := [.lit (.bool true)], args := [d] }
  | _ => none }
def worldAlgebraRow : OpenClaim := { program := "ytmkcohcpdfabbaadoor", sum := "8e4f6922921a7d01467a163dbbdb12ae55b99c85abec7d142e98923fa4501a94", func := "deliberation/deliberationlaw03.WorldAlgebra", spec := "worldAlgebra", inPlace := ["internal/abi.NoEscape", "internal/bytealg.MakeNoZero"], unfollowed := true, recurses := true, named := ["deliberation/formula.signs"], apart := false, laid := [("deliberation/formula.signs", laid_deliberation_formula_signs)] }
def WorldAlgebraSaid : Prop := worldAlgebraRow.holds Tryd.pinned (OpenSpec.ofChange worldAlgebraSpec)

/-- ITS FALSE NEIGHBOUR: 'it returns false'. Refute it at one input. -/
def worldAlgebraWrong : ChangeSpec := { name := "worldAlgebra", fn := fun _ => fun
  | [d] => { results := [.lit (.bool false)], args := [d] }
  | _ => none }
def WorldAlgebraWrongFalsely : Prop := worldAlgebraRow.holds Tryd.pinned (OpenSpec.ofChange worldAlgebraWrong)

/-- 'deliberationlaw03.WorldForgets': WHATEVER THE INPUT: true; the input reads as it did. -/
def worldForgetsSpec : ChangeSpec := { name := "worldForgets", fn := fun _ => fun
  | [d] => { results := [.lit (.bool true)], args := [d] }
  | _ => none }
def worldForgetsRow : OpenClaim := { program := "ytmkcohcpdfabbaadoor", sum := "8e4f6922921a7d01467a163dbbdb12ae55b99c85abec7d142e98923fa4501a94", func := "deliberation/deliberationlaw03.WorldForgets", spec := "worldForgets", inPlace := ["internal/abi.NoEscape", "internal/bytealg.MakeNoZero"], unfollowed := true, recurses := true, named := ["deliberation/formula.signs"], apart := false, laid := [("deliberation/formula.signs", laid_deliberation_formula_signs)] }
def WorldForgetsSaid : Prop := worldForgetsRow.holds Tryd.pinned (OpenSpec.ofChange worldForgetsSpec)

/-- ITS FALSE NEIGHBOUR: 'it returns false'. Refute it at one input. -/
def worldForgetsWrong : ChangeSpec := { name := "worldForgets", fn := fun _ => fun
  | [d] => { results := [.lit (.bool false)], args := [d] }
  | _ => none }
def WorldForgetsWrongFalsely : Prop := worldForgetsRow.holds Tryd.pinned (OpenSpec.ofChange worldForgetsWrong)

/-- 'deliberationlaw03.WorldEntails': WHATEVER THE INPUT: true; the input reads as it did. -/
def worldEntailsSpec : ChangeSpec := { name := "worldEntails", fn := fun _ => fun
  | [d] => { results := [.lit (.bool true)], args := [d] }
  | _ => none }
def worldEntailsRow : OpenClaim := { program := "ytmkcohcpdfabbaadoor", sum := "8e4f6922921a7d01467a163dbbdb12ae55b99c85abec7d142e98923fa4501a94", func := "deliberation/deliberationlaw03.WorldEntails", spec := "worldEntails", inPlace := ["internal/abi.NoEscape", "internal/bytealg.MakeNoZero"], unfollowed := true, recurses := true, named := ["deliberation/formula.signs"], apart := false, laid := [("deliberation/formula.signs", laid_deliberation_formula_signs)] }
def WorldEntailsSaid : Prop := worldEntailsRow.holds Tryd.pinned (OpenSpec.ofChange worldEntailsSpec)

/-- ITS FALSE NEIGHBOUR: 'it returns false'. Refute it at one input. -/
def worldEntailsWrong : ChangeSpec := { name := "worldEntails", fn := fun _ => fun
  | [d] => { results := [.lit (.bool false)], args := [d] }
  | _ => none }
def WorldEntailsWrongFalsely : Prop := worldEntailsRow.holds Tryd.pinned (OpenSpec.ofChange worldEntailsWrong)

/- THE SECOND FORM. 'bulk': how many values and letters a reading holds, each counted each time it is reached (what is shared counts as often as it is met; a slice's spare places count too). A statement '..UptoSaid' is the law's where the arguments, and the package variables that the reading takes, are together of bulk at most 1048576: NARROWER than '..Said'. Prove '..Said' where nothing that the law and all that it calls make is longer than what came in: it says more and counts as full. Else prove '..UptoSaid'. A law counts once. -/
mutual
def uptoBulk {H : Type} : DataW H → Nat
  | .lit (.string bytes) => bytes.length + 1
  | .lit _ => 1
  | .nil => 1
  | .ptr d => uptoBulk d + 1
  | .slice elems spare => uptoBulkAll elems + uptoBulkAll spare + 1
  | .agg parts => uptoBulkAll parts + 1
  | .iface _ d => uptoBulk d + 1
  | .map entries => uptoBulkEntries entries + 1
  | .held _ => 1
def uptoBulkAll {H : Type} : List (DataW H) → Nat
  | [] => 0
  | d :: r => uptoBulk d + uptoBulkAll r
def uptoBulkEntries {H : Type} : List (Lit × DataW H) → Nat
  | [] => 0
  | x :: r => uptoBulkEntry x + uptoBulkEntries r
def uptoBulkEntry {H : Type} : Lit × DataW H → Nat
  | (.string bytes, d) => bytes.length + uptoBulk d + 1
  | (_, d) => uptoBulk d + 1
 end
def uptoSmall : (H : Type) → List (DataW H) → Bool := fun _ ds => decide (uptoBulkAll ds ≤ 1048576)
def OpenSpec.upto (s : _root_.Go.ChangeSpec) : _root_.Go.OpenSpec := { _root_.Go.OpenSpec.ofChange s with cond := some uptoSmall }

/-- 'deliberationlaw02.FormulaTexts', WHERE WHAT IT READS IS OF BULK AT MOST 1048576: true; the input reads as it did. -/
def formulaTextsUptoRow : OpenClaim := { program := "ytmkcohcpdfabbaadoor", sum := "8e4f6922921a7d01467a163dbbdb12ae55b99c85abec7d142e98923fa4501a94", func := "deliberation/deliberationlaw02.FormulaTexts", spec := "formulaTexts", inPlace := ["internal/abi.NoEscape", "internal/bytealg.MakeNoZero"], unfollowed := true, recurses := true, named := ["deliberation/formula.signs"], loops := true, apart := false, laid := [("deliberation/formula.signs", laid_deliberation_formula_signs)], narrowed := true }
def FormulaTextsUptoSaid : Prop := formulaTextsUptoRow.holds Tryd.pinned (OpenSpec.upto formulaTextsSpec)

/-- 'deliberationlaw02.FormulaParses', WHERE WHAT IT READS IS OF BULK AT MOST 1048576: true; the input reads as it did. -/
def formulaParsesUptoRow : OpenClaim := { program := "ytmkcohcpdfabbaadoor", sum := "8e4f6922921a7d01467a163dbbdb12ae55b99c85abec7d142e98923fa4501a94", func := "deliberation/deliberationlaw02.FormulaParses", spec := "formulaParses", inPlace := ["internal/abi.NoEscape", "internal/bytealg.MakeNoZero"], unfollowed := true, recurses := true, named := ["deliberation/formula.signs"], apart := false, laid := [("deliberation/formula.signs", laid_deliberation_formula_signs)], narrowed := true }
def FormulaParsesUptoSaid : Prop := formulaParsesUptoRow.holds Tryd.pinned (OpenSpec.upto formulaParsesSpec)

/-- 'deliberationlaw02.FormulaBack', WHERE WHAT IT READS IS OF BULK AT MOST 1048576: true; the input reads as it did. -/
def formulaBackUptoRow : OpenClaim := { program := "ytmkcohcpdfabbaadoor", sum := "8e4f6922921a7d01467a163dbbdb12ae55b99c85abec7d142e98923fa4501a94", func := "deliberation/deliberationlaw02.FormulaBack", spec := "formulaBack", inPlace := ["internal/abi.NoEscape", "internal/bytealg.MakeNoZero"], unfollowed := true, recurses := true, named := ["deliberation/formula.signs"], apart := false, laid := [("deliberation/formula.signs", laid_deliberation_formula_signs)], narrowed := true }
def FormulaBackUptoSaid : Prop := formulaBackUptoRow.holds Tryd.pinned (OpenSpec.upto formulaBackSpec)

/-- 'deliberationlaw02.FormulaOwn', WHERE WHAT IT READS IS OF BULK AT MOST 1048576: true; the input reads as it did. -/
def formulaOwnUptoRow : OpenClaim := { program := "ytmkcohcpdfabbaadoor", sum := "8e4f6922921a7d01467a163dbbdb12ae55b99c85abec7d142e98923fa4501a94", func := "deliberation/deliberationlaw02.FormulaOwn", spec := "formulaOwn", inPlace := ["internal/abi.NoEscape", "internal/bytealg.MakeNoZero"], unfollowed := true, recurses := true, named := ["deliberation/formula.signs"], apart := false, laid := [("deliberation/formula.signs", laid_deliberation_formula_signs)], narrowed := true }
def FormulaOwnUptoSaid : Prop := formulaOwnUptoRow.holds Tryd.pinned (OpenSpec.upto formulaOwnSpec)

/-- 'deliberationlaw03.WorldBack', WHERE WHAT IT READS IS OF BULK AT MOST 1048576: true; the input reads as it did. -/
def worldBackUptoRow : OpenClaim := { program := "ytmkcohcpdfabbaadoor", sum := "8e4f6922921a7d01467a163dbbdb12ae55b99c85abec7d142e98923fa4501a94", func := "deliberation/deliberationlaw03.WorldBack", spec := "worldBack", inPlace := ["internal/abi.NoEscape", "internal/bytealg.MakeNoZero"], unfollowed := true, recurses := true, named := ["deliberation/formula.signs"], apart := false, laid := [("deliberation/formula.signs", laid_deliberation_formula_signs)], narrowed := true }
def WorldBackUptoSaid : Prop := worldBackUptoRow.holds Tryd.pinned (OpenSpec.upto worldBackSpec)

/-- 'deliberationlaw03.WorldAlgebra', WHERE WHAT IT READS IS OF BULK AT MOST 1048576: true; the input reads as it did. -/
def worldAlgebraUptoRow : OpenClaim := { program := "ytmkcohcpdfabbaadoor", sum := "8e4f6922921a7d01467a163dbbdb12ae55b99c85abec7d142e98923fa4501a94", func := "deliberation/deliberationlaw03.WorldAlgebra", spec := "worldAlgebra", inPlace := ["internal/abi.NoEscape", "internal/bytealg.MakeNoZero"], unfollowed := true, recurses := true, named := ["deliberation/formula.signs"], apart := false, laid := [("deliberation/formula.signs", laid_deliberation_formula_signs)], narrowed := true }
def WorldAlgebraUptoSaid : Prop := worldAlgebraUptoRow.holds Tryd.pinned (OpenSpec.upto worldAlgebraSpec)

/-- 'deliberationlaw03.WorldForgets', WHERE WHAT IT READS IS OF BULK AT MOST 1048576: true; the input reads as it did. -/
def worldForgetsUptoRow : OpenClaim := { program := "ytmkcohcpdfabbaadoor", sum := "8e4f6922921a7d01467a163dbbdb12ae55b99c85abec7d142e98923fa4501a94", func := "deliberation/deliberationlaw03.WorldForgets", spec := "worldForgets", inPlace := ["internal/abi.NoEscape", "internal/bytealg.MakeNoZero"], unfollowed := true, recurses := true, named := ["deliberation/formula.signs"], apart := false, laid := [("deliberation/formula.signs", laid_deliberation_formula_signs)], narrowed := true }
def WorldForgetsUptoSaid : Prop := worldForgetsUptoRow.holds Tryd.pinned (OpenSpec.upto worldForgetsSpec)

/-- 'deliberationlaw03.WorldEntails', WHERE WHAT IT READS IS OF BULK AT MOST 1048576: true; the input reads as it did. -/
def worldEntailsUptoRow : OpenClaim := { program := "ytmkcohcpdfabbaadoor", sum := "8e4f6922921a7d01467a163dbbdb12ae55b99c85abec7d142e98923fa4501a94", func := "deliberation/deliberationlaw03.WorldEntails", spec := "worldEntails", inPlace := ["internal/abi.NoEscape", "internal/bytealg.MakeNoZero"], unfollowed := true, recurses := true, named := ["deliberation/formula.signs"], apart := false, laid := [("deliberation/formula.signs", laid_deliberation_formula_signs)], narrowed := true }
def WorldEntailsUptoSaid : Prop := worldEntailsUptoRow.holds Tryd.pinned (OpenSpec.upto worldEntailsSpec)

end Rows
end Go.Proofs.YtmkcohcpdfabbaaDoor
