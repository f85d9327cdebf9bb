/- Sets of nodes as bits: the laws of their operations; TrailingZeros64; elements. -/
import Derived.Test.YtghnojmaciljoaaG0I
import Derived.Shelf.Spec.TrailingZeros
namespace Go.Proofs.Ytghnojmaciljoaa
set_option linter.unusedVariables false
set_option linter.unusedSimpArgs false
open Go Go.RowKit Go.Sort
/-- Numbers as ints. -/
def ints (l : List Nat) : List Int := l.map Int.ofNat
theorem ints_len (l : List Nat) : (ints l).length = l.length := List.length_map _

end Go.Proofs.Ytghnojmaciljoaa
