/- Equal lists of pairs, equal graphs, equal lists of lists; a pair in a list. -/
import Derived.Test.YtfiaoibfejginaaDoorG0A
namespace Go.Proofs.YtfiaoibfejginaaDoor
set_option linter.unusedVariables false
set_option linter.unusedSimpArgs false
open Go Go.RowKit Go.Sort

theorem getElem_bang {xs : List (Int × Int)} {k : Nat} (h : k < xs.length) : xs[k]! = xs[k] := getElem!_pos xs k h

/-- A graph's two boxes, laid one behind the other. -/
theorem two_boxes (w : World) (O1 O2 : Obj) : (((w.alloc O1).alloc O2).heap[w.heap.size]? = some O1 ∧ ((w.alloc O1).alloc O2).heap[w.heap.size + 1]? = some O2) ∧ Below w.heap.size w ((w.alloc O1).alloc O2) := by
  have hg1 := bgrow w O1
  have hg2 := bgrow (w.alloc O1) O2
  have hY := heap_alloc_new (w.alloc O1) O2
  rw [World.size_alloc] at hY
  exact ⟨⟨blk_kept2 (heap_alloc_new w O1) hg2, hY⟩, hg1.trans (Below.mono hg2 hg1.size)⟩

/-- Are two graphs equal? -/
def sameB (n m : Int) (xs ys : List (Int × Int)) : Bool := decide (n = m ∧ xs = ys)

/-- A list of lists of numbers. -/
def LL (w : World) (v : Value) (zss : List (List Int)) : Prop :=
  (v = .slice none 0 0 ∧ zss = []) ∨
  ∃ (b off cap : Nat), v = .slice (some ⟨b, off, none⟩) zss.length cap ∧ zss.length ≤ cap ∧ cap ≤ maxLen ∧ b < w.heap.size ∧ ∀ i (h : i < zss.length), ∃ u, w.cell? ⟨b, off + i, none⟩ = some u ∧ IL w u zss[i]
theorem LL.below {w w' : World} {v : Value} {zss : List (List Int)} (h : LL w v zss) (hb : Below w.heap.size w w') : LL w' v zss := by
  rcases h with h | ⟨b, off, cap, h1, h2, h3, h4, h5⟩
  · exact .inl h
  · refine .inr ⟨b, off, cap, h1, h2, h3, Nat.lt_of_lt_of_le h4 hb.size, fun i hi => ?_⟩
    obtain ⟨u, hu, hl⟩ := h5 i hi
    exact ⟨u, (Below.cell (p := ⟨b, off + i, none⟩) hb h4).trans hu, hl.below hb⟩
theorem LL.form {w : World} {v : Value} {zss : List (List Int)} (h : LL w v zss) : ∃ (a : Option Addr) (c : Nat), v = .slice a zss.length c ∧
    (∀ i (h : i < zss.length), ∃ b off u, a = some ⟨b, off, none⟩ ∧ b < w.heap.size ∧ w.cell? ⟨b, off + i, none⟩ = some u ∧ IL w u zss[i]) := by
  rcases h with ⟨rfl, rfl⟩ | ⟨b, off, cap, rfl, h2, h3, h4, h5⟩
  · exact ⟨none, 0, rfl, fun i hi => by simp at hi⟩
  · exact ⟨_, cap, rfl, fun i hi => by obtain ⟨u, hu, hl⟩ := h5 i hi; exact ⟨b, off, u, rfl, h4, hu, hl⟩⟩
end Go.Proofs.YtfiaoibfejginaaDoor
