/-
  NARROWER THAN 'FOR EVERY INPUT', by the rows' own cells (each row's printed sentence says how): FormulaTexts: loops, laid · FormulaParses: laid · FormulaOwn: laid.
  DERIVED. THE GIVEN ROWS OF THIS SEAT. 3 by the template 'for every input the law returns true; each argument reads behind the call as it read before'; 0 by the template 'total and deterministic' (their statements: YtilkpjcbmllgmaaDoorTotals.lean).
  GIVEN WITH THE SEED: the statements are not yours to turn. If you find one false, say at which input.
  Laid BY PROGRAM, IN A SANDBOX (cutbox-rows.mjs): the forced cells as the released guide's own fill.sh prints them over the translation 6f8c0676ca73be0a… (all of the seat's roots in one cut). By AI agents, Wed Nov 11 2026. No macro, syntax, notation, axiom, sorry.
-/
import Derived.Test.YtilkpjcbmllgmaaDoorChecked
import GoSem.Claim
import GoSem.ClaimJoined
import GoSem.ClaimMapViews
import Derived.JoinedTies
import Derived.KernelRfl
namespace Go.Proofs.YtilkpjcbmllgmaaDoor
/- THE CELL 'sum', in the pinned program and in every row, IS THE sha256 OF THE DUMP (.gsa) THAT YtilkpjcbmllgmaaDoorProg.lean LOADS. Nothing in Lean hashes anything: it is a label: what it is worth is what the hold of that sum in a sandbox is worth. -/
noncomputable def Tryd.pinned : Pinned := { name := "ytilkpjcbmllgmaadoor", sum := "6f8c0676ca73be0a9c1761360f84311e418d7e28c0aa3e8cc3eac880d92c97a4", checked := Tryd.checked }
namespace Rows
def none {H : Type} : Left H := { results := [], args := [] }

/- WHAT THE LISTED PACKAGE-LEVEL VARIABLES READ AS WHEN THE CALL BEGINS. Each datum BY PROGRAM (the guide's laid-datum.mjs) off the statement by which the dump's own 'gosem.cut.vars' lays the variable. In a bare row this is a premise. The card (YtilkpjcbmllgmaaDoorCards.lean) ties it to the program's text. -/
def laid_deliberation_formula_signs {H : Type} : DataW H := .agg [.lit (.string [60, 45, 62]), .lit (.string [45, 62]), .lit (.string [126]), .lit (.string [38]), .lit (.string [124]), .lit (.string [40]), .lit (.string [41])]

/-- 'deliberationlaw02.FormulaTexts': WHATEVER THE INPUT: true; the input reads as it did. -/
def formulaTextsSpec : ChangeSpec := { name := "formulaTexts", fn := fun _ => fun
  | [d1, d2] => { results := [.lit (.bool true)], args := [d1, d2] }
  | _ => none }
def formulaTextsRow : OpenClaim := { program := "ytilkpjcbmllgmaadoor", sum := "6f8c0676ca73be0a9c1761360f84311e418d7e28c0aa3e8cc3eac880d92c97a4", func := "deliberation/deliberationlaw02.FormulaTexts", spec := "formulaTexts", inPlace := ["internal/abi.NoEscape", "internal/bytealg.MakeNoZero"], unfollowed := true, recurses := true, named := ["deliberation/formula.signs"], loops := true, apart := false, laid := [("deliberation/formula.signs", laid_deliberation_formula_signs)] }
def FormulaTextsSaid : Prop := formulaTextsRow.holds Tryd.pinned (OpenSpec.ofChange formulaTextsSpec)

/-- ITS FALSE NEIGHBOUR: 'it returns false'. Refute it at one input. -/
def formulaTextsWrong : ChangeSpec := { name := "formulaTexts", fn := fun _ => fun
  | [d1, d2] => { results := [.lit (.bool false)], args := [d1, d2] }
  | _ => none }
def FormulaTextsWrongFalsely : Prop := formulaTextsRow.holds Tryd.pinned (OpenSpec.ofChange formulaTextsWrong)

/-- 'deliberationlaw02.FormulaParses': WHATEVER THE INPUT: true; the input reads as it did. -/
def formulaParsesSpec : ChangeSpec := { name := "formulaParses", fn := fun _ => fun
  | [d1, d2, d3, d4] => { results := [.lit (.bool true)], args := [d1, d2, d3, d4] }
  | _ => none }
def formulaParsesRow : OpenClaim := { program := "ytilkpjcbmllgmaadoor", sum := "6f8c0676ca73be0a9c1761360f84311e418d7e28c0aa3e8cc3eac880d92c97a4", func := "deliberation/deliberationlaw02.FormulaParses", spec := "formulaParses", inPlace := ["internal/abi.NoEscape", "internal/bytealg.MakeNoZero"], unfollowed := true, recurses := true, named := ["deliberation/formula.signs"], apart := false, laid := [("deliberation/formula.signs", laid_deliberation_formula_signs)] }
def FormulaParsesSaid : Prop := formulaParsesRow.holds Tryd.pinned (OpenSpec.ofChange formulaParsesSpec)

/-- ITS FALSE NEIGHBOUR: 'it returns false'. Refute it at one input. -/
def formulaParsesWrong : ChangeSpec := { name := "formulaParses", fn := fun _ => fun
  | [d1, d2, d3, d4] => { results := [.lit (.bool false)], args := [d1, d2, d3, d4] }
  | _ => none }
def FormulaParsesWrongFalsely : Prop := formulaParsesRow.holds Tryd.pinned (OpenSpec.ofChange formulaParsesWrong)

/-- 'deliberationlaw02.FormulaOwn': WHATEVER THE INPUT: true; the input reads as it did. -/
def formulaOwnSpec : ChangeSpec := { name := "formulaOwn", fn := fun _ => fun
  | [d1, d2] => { results := [.lit (.bool true)], args := [d1, d2] }
  | _ => none }
def formulaOwnRow : OpenClaim := { program := "ytilkpjcbmllgmaadoor", sum := "6f8c0676ca73be0a9c1761360f84311e418d7e28c0aa3e8cc3eac880d92c97a4", func := "deliberation/deliberationlaw02.FormulaOwn", spec := "formulaOwn", inPlace := ["internal/abi.NoEscape", "internal/bytealg.MakeNoZero"], unfollowed := true, recurses := true, named := ["deliberation/formula.signs"], apart := false, laid := [("deliberation/formula.signs", laid_deliberation_formula_signs)] }
def FormulaOwnSaid : Prop := formulaOwnRow.holds Tryd.pinned (OpenSpec.ofChange formulaOwnSpec)

/-- ITS FALSE NEIGHBOUR: 'it returns false'. Refute it at one input. -/
def formulaOwnWrong : ChangeSpec := { name := "formulaOwn", fn := fun _ => fun
  | [d1, d2] => { results := [.lit (.bool false)], args := [d1, d2] }
  | _ => none }
def FormulaOwnWrongFalsely : Prop := formulaOwnRow.holds Tryd.pinned (OpenSpec.ofChange formulaOwnWrong)

/- THE SECOND FORM. 'bulk': how many values and letters a reading holds, each counted each time it is reached (what is shared counts as often as it is met; a slice's spare places count too). A statement '..UptoSaid' is the law's where the arguments, and the package variables that the reading takes, are together of bulk at most 1048576: NARROWER than '..Said'. Prove '..Said' where nothing that the law and all that it calls make is longer than what came in: it says more and counts as full. Else prove '..UptoSaid'. A law counts once. -/
mutual
def uptoBulk {H : Type} : DataW H → Nat
  | .lit (.string bytes) => bytes.length + 1
  | .lit _ => 1
  | .nil => 1
  | .ptr d => uptoBulk d + 1
  | .slice elems spare => uptoBulkAll elems + uptoBulkAll spare + 1
  | .agg parts => uptoBulkAll parts + 1
  | .iface _ d => uptoBulk d + 1
  | .map entries => uptoBulkEntries entries + 1
  | .held _ => 1
def uptoBulkAll {H : Type} : List (DataW H) → Nat
  | [] => 0
  | d :: r => uptoBulk d + uptoBulkAll r
def uptoBulkEntries {H : Type} : List (Lit × DataW H) → Nat
  | [] => 0
  | x :: r => uptoBulkEntry x + uptoBulkEntries r
def uptoBulkEntry {H : Type} : Lit × DataW H → Nat
  | (.string bytes, d) => bytes.length + uptoBulk d + 1
  | (_, d) => uptoBulk d + 1
 end
def uptoSmall : (H : Type) → List (DataW H) → Bool := fun _ ds => decide (uptoBulkAll ds ≤ 1048576)
def OpenSpec.upto (s : _root_.Go.ChangeSpec) : _root_.Go.OpenSpec := { _root_.Go.OpenSpec.ofChange s with cond := some uptoSmall }

/-- 'deliberationlaw02.FormulaTexts', WHERE WHAT IT READS IS OF BULK AT MOST 1048576: true; the input reads as it did. -/
def formulaTextsUptoRow : OpenClaim := { program := "ytilkpjcbmllgmaadoor", sum := "6f8c0676ca73be0a9c1761360f84311e418d7e28c0aa3e8cc3eac880d92c97a4", func := "deliberation/deliberationlaw02.FormulaTexts", spec := "formulaTexts", inPlace := ["internal/abi.NoEscape", "internal/bytealg.MakeNoZero"], unfollowed := true, recurses := true, named := ["deliberation/formula.signs"], loops := true, apart := false, laid := [("deliberation/formula.signs", laid_deliberation_formula_signs)], narrowed := true }
def FormulaTextsUptoSaid : Prop := formulaTextsUptoRow.holds Tryd.pinned (OpenSpec.upto formulaTextsSpec)

/-- 'deliberationlaw02.FormulaParses', WHERE WHAT IT READS IS OF BULK AT MOST 1048576: true; the input reads as it did. -/
def formulaParsesUptoRow : OpenClaim := { program := "ytilkpjcbmllgmaadoor", sum := "6f8c0676ca73be0a9c1761360f84311e418d7e28c0aa3e8cc3eac880d92c97a4", func := "deliberation/deliberationlaw02.FormulaParses", spec := "formulaParses", inPlace := ["internal/abi.NoEscape", "internal/bytealg.MakeNoZero"], unfollowed := true, recurses := true, named := ["deliberation/formula.signs"], apart := false, laid := [("deliberation/formula.signs", laid_deliberation_formula_signs)], narrowed := true }
def FormulaParsesUptoSaid : Prop := formulaParsesUptoRow.holds Tryd.pinned (OpenSpec.upto formulaParsesSpec)

/-- 'deliberationlaw02.FormulaOwn', WHERE WHAT IT READS IS OF BULK AT MOST 1048576: true; the input reads as it did. -/
def formulaOwnUptoRow : OpenClaim := { program := "ytilkpjcbmllgmaadoor", sum := "6f8c0676ca73be0a9c1761360f84311e418d7e28c0aa3e8cc3eac880d92c97a4", func := "deliberation/deliberationlaw02.FormulaOwn", spec := "formulaOwn", inPlace := ["internal/abi.NoEscape", "internal/bytealg.MakeNoZero"], unfollowed := true, recurses := true, named := ["deliberation/formula.signs"], apart := false, laid := [("deliberation/formula.signs", laid_deliberation_formula_signs)], narrowed := true }
def FormulaOwnUptoSaid : Prop := formulaOwnUptoRow.holds Tryd.pinned (OpenSpec.upto formulaOwnSpec)

end Rows
end Go.Proofs.YtilkpjcbmllgmaaDoor
