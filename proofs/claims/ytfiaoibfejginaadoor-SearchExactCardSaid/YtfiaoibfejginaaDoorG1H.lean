/- What Induced does, as mathematics: parts of parts. -/
import Derived.Test.YtfiaoibfejginaaDoorG0I
namespace Go.Proofs.YtfiaoibfejginaaDoor
set_option linter.unusedVariables false
set_option linter.unusedSimpArgs false
open Go Go.RowKit Go.Sort

/-- An ascending list of numbers below n. -/
structure Asc (n : Nat) (l : List Nat) : Prop where
  up : l.Pairwise fun a b => a < b
  lt : ∀ x ∈ l, x < n

theorem asc_unique : ∀ {l r : List Nat}, l.Pairwise (fun a b => a < b) → r.Pairwise (fun a b => a < b) → (∀ x, x ∈ l ↔ x ∈ r) → l = r := by
  intro l r hl hr h
  have n1 : l.Nodup := hl.imp fun h => Nat.ne_of_lt h
  have n2 : r.Nodup := hr.imp fun h => Nat.ne_of_lt h
  exact List.Perm.eq_of_pairwise (le := fun a b => a ≤ b) (fun a b _ _ h1 h2 => Nat.le_antisymm h1 h2) (hl.imp fun h => Nat.le_of_lt h) (hr.imp fun h => Nat.le_of_lt h) ((List.perm_ext_iff_of_nodup n1 n2).2 h)
end Go.Proofs.YtfiaoibfejginaaDoor
