/- The reference's Meet and In; With: the program's and the reference's. -/
import Derived.Test.YtghnojmaciljoaaL1D
namespace Go.Proofs.Ytghnojmaciljoaa
set_option linter.unusedVariables false
set_option linter.unusedSimpArgs false
open Go Go.RowKit Go.Sort

theorem OwnI.news {w : World} {B k c : Nat} {a : Option Addr} {zs : List Int} (h : OwnI w B (.slice a k c) zs) (hl : zs.length = k) (o : Obj) : World.ownsRow (w.alloc o) B 3 1 (.slice a k c) k (zs.map (Value.int .i64)) := by
  have h2 := h.go (bgrow w o)
  unfold OwnI at h2
  rw [hl] at h2
  exact h2
theorem OwnI.done {w : World} {B k : Nat} {v : Value} {zs : List Int} {z : Int} (hl : zs.length = k) (h : World.ownsRow w B 3 1 v (k + 1) (zs.map (Value.int .i64) ++ [.int .i64 z])) : OwnI w B v (zs ++ [z]) := by
  subst hl
  exact OwnI.snoc h
theorem OwnI.drewN {w : World} {B : Nat} {v : Value} {zs : List Int} (h : OwnI w B v zs) (n : Nat) : OwnI (w.drewN n) B v zs := owns_kept h (fun g e => rfl)
theorem below_drewN9 {n : Nat} {w a : World} (h : Below n w a) (m : Nat) : Below n w (a.drewN m) := ⟨h.os, h.tape, h.output, h.size, h.block⟩

/-- The places of the elements that are x. -/
def withF (xs : List Int) (x : Int) : List Nat := (List.range xs.length).filter fun i => decide (xs[i]? = some x)
def withTo (xs : List Int) (x : Int) (k : Nat) : List Nat := (List.range k).filter fun i => decide (xs[i]? = some x)
theorem withTo_step (xs : List Int) (x : Int) {k : Nat} (h : k < xs.length) : withTo xs x (k + 1) = withTo xs x k ++ if xs[k] = x then [k] else [] := by
  have e := List.getElem?_eq_getElem (l := xs) h
  unfold withTo
  rw [List.range_succ, List.filter_append]
  congr 1
  by_cases hx : xs[k] = x
  · rw [if_pos hx]; simp [e, hx]
  · rw [if_neg hx]; simp [e, hx]
theorem withTo_len (xs : List Int) (x : Int) (k : Nat) : (withTo xs x k).length ≤ k := by
  unfold withTo
  exact Nat.le_trans (List.length_filter_le _ _) (by rw [List.length_range]; exact Nat.le_refl _)
theorem mem_withF {xs : List Int} {x : Int} {i : Nat} : i ∈ withF xs x ↔ xs[i]? = some x := by
  unfold withF
  rw [List.mem_filter, List.mem_range, decide_eq_true_eq]
  exact ⟨fun h => h.2, fun h => ⟨by
    rcases Nat.lt_or_ge i xs.length with h' | h'
    · exact h'
    · rw [List.getElem?_eq_none h'] at h; (cases h), h⟩⟩

end Go.Proofs.Ytghnojmaciljoaa
