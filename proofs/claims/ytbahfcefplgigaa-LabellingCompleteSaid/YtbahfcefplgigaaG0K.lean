/- The sets of the nodes that each node attacks. -/
import Derived.Test.YtbahfcefplgigaaG0I
import Derived.BigRegion
namespace Go.Proofs.Ytbahfcefplgigaa
set_option linter.unusedVariables false
set_option linter.unusedSimpArgs false
open Go Go.RowKit Go.Sort

/-- A valid graph. -/
structure GOk (n : Int) (ps : List (Int × Int)) : Prop where
  n0 : 0 ≤ n
  n40 : n ≤ 40
  ix : ∀ p ∈ ps, (0 ≤ p.1 ∧ p.1 < n) ∧ (0 ≤ p.2 ∧ p.2 < n)
  up : ps.Pairwise fun a b => geP a b = false

def geO (p : Option (Int × Int)) (x : Int × Int) : Bool := match p with | none => false | some y => geP y x
theorem valFrom_cons (n : Int) (p : Option (Int × Int)) (x : Int × Int) (r : List (Int × Int)) : valFrom n p (x :: r) = if (ixB x.1 n && ixB x.2 n) = false then 1 else if geO p x = true then 8 else valFrom n (some x) r := by
  cases p <;> rfl
end Go.Proofs.Ytbahfcefplgigaa
