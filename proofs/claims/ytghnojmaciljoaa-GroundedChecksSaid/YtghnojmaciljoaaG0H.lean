/- A pair in a list; Has, Attackers, Attacked: the program's and the reference's. -/
import Derived.Test.YtghnojmaciljoaaG0V
namespace Go.Proofs.Ytghnojmaciljoaa
set_option linter.unusedVariables false
set_option linter.unusedSimpArgs false
open Go Go.RowKit Go.Sort

theorem below_of_alloc {w w1 : World} {o : Obj} (hb : Below (w.alloc o).heap.size (w.alloc o) w1) : Below w.heap.size w w1 := ((Below.refl _ _).alloc (Nat.le_refl _) o).trans (hb.mono (by simp))
theorem take_snoc (xs : List (Int × Int)) (k : Nat) (h : k < xs.length) : xs.take (k + 1) = xs.take k ++ [xs[k]!] := by
  rw [getElem_bang h]; exact List.take_succ_eq_append_getElem h
theorem mem_take_succ {xs : List (Int × Int)} {x : (Int × Int)} {k : Nat} (hk : k < xs.length) : x ∈ xs.take (k + 1) ↔ x ∈ xs.take k ∨ x = xs[k]! := by
  rw [take_snoc xs k hk, List.mem_append, List.mem_singleton]

theorem not_mem_succ {xs : List (Int × Int)} {x : (Int × Int)} {k : Nat} (hk : k < xs.length) (h1 : x ∉ xs.take k) (h2 : x ≠ xs[k]!) : x ∉ xs.take (k + 1) := fun hm =>
  (mem_take_succ hk).1 hm |>.elim h1 h2

end Go.Proofs.Ytghnojmaciljoaa
