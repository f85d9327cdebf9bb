/- The closed facts of the row RulebasePromotes. -/
import Derived.Test.YtiffcdhiejmbdaaGreatDoorRows
import Derived.ProofKit
import Derived.OpenShut
namespace Go.Proofs.YtiffcdhiejmbdaaGreatDoor.rulebasePromotes
set_option linter.unusedVariables false
set_option linter.unusedSimpArgs false
open Go.RowKit
set_option maxRecDepth 100000 in
set_option maxHeartbeats 4000000 in
theorem closed : joinedFacts Tryz.pinned.checked.prog 6 Tryz.f6 (OpenSpec.ofChange Rows.rulebasePromotesSpec).bare Rows.rulebasePromotesRow = true := by
  simp only [joinedFacts, Bool.and_eq_true]
  and_intros
  all_goals as_aux_lemma => kernel_rfl
end Go.Proofs.YtiffcdhiejmbdaaGreatDoor.rulebasePromotes
