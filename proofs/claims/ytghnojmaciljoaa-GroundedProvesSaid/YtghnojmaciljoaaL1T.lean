/- The program's Attackers: a list that the call owns. -/
import Derived.Test.YtghnojmaciljoaaL1H
namespace Go.Proofs.Ytghnojmaciljoaa
set_option linter.unusedVariables false
set_option linter.unusedSimpArgs false
open Go Go.RowKit Go.Sort
end Go.Proofs.Ytghnojmaciljoaa
