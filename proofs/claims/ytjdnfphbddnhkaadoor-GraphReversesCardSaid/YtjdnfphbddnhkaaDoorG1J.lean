/- The law GraphInduces: for every list of numbers it answers true. -/
import Derived.Test.YtjdnfphbddnhkaaDoorG1I
import Derived.Test.YtjdnfphbddnhkaaDoorG1G
import Derived.Test.YtjdnfphbddnhkaaDoorNew
namespace Go.Proofs.YtjdnfphbddnhkaaDoor
set_option linter.unusedVariables false
set_option linter.unusedSimpArgs false
open Go Go.RowKit Go.Sort

theorem OwnPairs.read {w w' : World} {B b : Nat} {v : Value} {xs : List (Int × Int)} (h : OwnPairs w B v xs) (hg : w.grownBy w' (some b)) (hb : b < B) : OwnPairs w' B v xs := by
  rcases h with h | ⟨g, cap, h1, h2, h3, h4, h5, h6⟩
  · exact .inl h
  · have hk : w'.heap[g]? = w.heap[g]? := hg.block g h5 (fun e => by injection e with e; omega)
    exact .inr ⟨g, cap, h1, h2, h3, h4, Nat.lt_of_lt_of_le h5 hg.size, holds_block h6 hk⟩
theorem OwnI.read {w w' : World} {B b : Nat} {v : Value} {zs : List Int} (h : OwnI w B v zs) (hg : w.grownBy w' (some b)) (hb : b < B) : OwnI w' B v zs :=
  owns_kept h fun g e => hg.block g (owns_blk h g e).2 (fun e2 => by injection e2 with e2; have := (owns_blk h g e).1; omega)
theorem blk_read {w w' : World} {b g : Nat} {o : Obj} (h : w.heap[g]? = some o) (hg : w.grownBy w' (some b)) (hne : g ≠ b) : w'.heap[g]? = some o :=
  (hg.block g (lt_of_block h) (fun e => hne (by first | exact Option.some.inj e | exact (Option.some.inj e).symm))).trans h
theorem below_read {w a a' : World} {b : Nat} (h : Below b w a) (hg : a.grownBy a' (some b)) (hna : b ≤ a.heap.size) : Below b w a' := below_app5 h hg (fun g e => by injection e with e; omega) hna
theorem ints_range (n : Nat) : ints (List.range (n + 1)) = ints (List.range n) ++ [(n : Int)] := by
  unfold ints
  rw [List.range_succ, List.map_append]
  first | done | rfl
theorem IL.ics {w : World} {a : Option Addr} {n c : Nat} {zs : List Int} (h : IL w (.slice a n c) zs) : IC w a zs := by
  obtain ⟨a', c', e, hic⟩ := h.ic
  injection e with e1
  subst e1
  exact hic
theorem ints_get {l : List Nat} {j : Nat} (h : j < l.length) : (ints l)[j]'(by rw [ints_len]; exact h) = ((l[j] : Nat) : Int) := by unfold ints; simp
theorem pickN_len (l f : List Nat) : (pickN l f).length = f.length := by unfold pickN; rw [List.length_map]
theorem pick_step {l f : List Nat} {j : Nat} (h : j < f.length) : pickN l (f.take (j + 1)) = pickN l (f.take j) ++ [l.getD f[j] 0] := by
  unfold pickN
  rw [List.take_succ_eq_append_getElem h, List.map_append]
  rfl

end Go.Proofs.YtjdnfphbddnhkaaDoor
