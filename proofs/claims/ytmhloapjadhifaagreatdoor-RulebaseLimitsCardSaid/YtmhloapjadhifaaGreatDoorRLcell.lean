/- The closed facts of the row RulebaseLimits. -/
import Derived.Test.YtmhloapjadhifaaGreatDoorRows
import Derived.ProofKit
import Derived.OpenShut
namespace Go.Proofs.YtmhloapjadhifaaGreatDoor.rulebaseLimits
set_option linter.unusedVariables false
set_option linter.unusedSimpArgs false
open Go.RowKit
set_option maxRecDepth 100000 in
set_option maxHeartbeats 4000000 in
theorem closed : joinedFacts Tryz.pinned.checked.prog 8 Tryz.f8 (OpenSpec.ofChange Rows.rulebaseLimitsSpec).bare Rows.rulebaseLimitsRow = true := by
  simp only [joinedFacts, Bool.and_eq_true]
  and_intros
  all_goals as_aux_lemma => kernel_rfl
end Go.Proofs.YtmhloapjadhifaaGreatDoor.rulebaseLimits
