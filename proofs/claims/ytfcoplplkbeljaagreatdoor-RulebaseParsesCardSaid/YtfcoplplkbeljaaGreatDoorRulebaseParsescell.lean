/- The closed facts of the row RulebaseParses. -/
import Derived.Test.YtfcoplplkbeljaaGreatDoorRows
import Derived.ProofKit
import Derived.OpenShut
namespace Go.Proofs.YtfcoplplkbeljaaGreatDoor.rulebaseParses
set_option linter.unusedVariables false
set_option linter.unusedSimpArgs false
open Go.RowKit
set_option maxRecDepth 100000 in
set_option maxHeartbeats 4000000 in
theorem closed : joinedFacts Tryz.pinned.checked.prog 3 Tryz.f3 (OpenSpec.ofChange Rows.rulebaseParsesSpec).bare Rows.rulebaseParsesRow = true := by
  simp only [joinedFacts, Bool.and_eq_true]
  and_intros
  all_goals as_aux_lemma => kernel_rfl
end Go.Proofs.YtfcoplplkbeljaaGreatDoor.rulebaseParses
