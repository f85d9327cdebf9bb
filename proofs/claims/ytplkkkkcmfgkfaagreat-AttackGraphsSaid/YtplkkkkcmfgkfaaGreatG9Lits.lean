/- A value that is a list of literals: where its cells lie, and what keeps it so. -/
import Derived.Test.YtplkkkkcmfgkfaaGreatG9Compact
namespace Go.Proofs.YtplkkkkcmfgkfaaGreat
set_option linter.unusedVariables false
set_option linter.unusedSimpArgs false
open Go.RowKit Go.Sort

/-- The value is a list of literals that reads as xs. -/
def PairsAt (w : World) (v : Value) (xs : List (Int × Int)) : Prop :=
  (v = .slice none 0 0 ∧ xs = []) ∨
  ∃ (b off cap : Nat), v = .slice (some ⟨b, off, none⟩) xs.length cap ∧ xs.length ≤ cap ∧ cap ≤ maxLen ∧ b < w.heap.size ∧
    ∀ i, i < xs.length → w.cell? ⟨b, off + i * 2, none⟩ = some (.int .i64 (xs[i]!).1) ∧ w.cell? ⟨b, off + i * 2 + 1, none⟩ = some (.int .i64 (xs[i]!).2)

/-- .. and lies in a block that may be written whole, from block B on. -/
def OwnPairs (w : World) (B : Nat) (v : Value) (xs : List (Int × Int)) : Prop :=
  (v = .slice none 0 0 ∧ xs = []) ∨
  ∃ (b cap : Nat), v = .slice (some ⟨b, 0, none⟩) xs.length cap ∧ xs.length ≤ cap ∧ cap ≤ maxLen ∧ B ≤ b ∧ b < w.heap.size ∧ HoldsK encP 2 w b 0 xs.toArray

theorem OwnPairs.lits {w : World} {B : Nat} {v : Value} {xs : List (Int × Int)} (h : OwnPairs w B v xs) : PairsAt w v xs := by
  rcases h with h | ⟨b, cap, h1, h2, h3, h4, h5, h6⟩
  · exact .inl h
  · refine .inr ⟨b, 0, cap, h1, h2, h3, h5, fun i hi => ?_⟩
    have := HoldsK.at0 h6 (show i < xs.toArray.size by simpa using hi)
    simp only [List.getElem!_toArray] at this
    exact ⟨this.1.1, this.2.1⟩

theorem PairsAt.kept {w w' : World} {v : Value} {xs : List (Int × Int)} (h : PairsAt w v xs) {row : Option Nat} (hg : w.grownBy w' row) (hr : ∀ g, row = some g → ∀ b off cap, v = .slice (some ⟨b, off, none⟩) xs.length cap → b ≠ g) : PairsAt w' v xs := by
  rcases h with h | ⟨b, off, cap, h1, h2, h3, h4, h5⟩
  · exact .inl h
  · have hb : w'.heap[b]? = w.heap[b]? := hg.block b h4 (fun e => hr b e.symm b off cap h1 rfl)
    refine .inr ⟨b, off, cap, h1, h2, h3, Nat.lt_of_lt_of_le h4 hg.size, fun i hi => ?_⟩
    rw [World.cell?_of_block (w := w) (w' := w') (a := ⟨b, off + i * 2, none⟩) hb, World.cell?_of_block (w := w) (w' := w') (a := ⟨b, off + i * 2 + 1, none⟩) hb]
    exact h5 i hi
theorem PairsAt.grow {w w' : World} {v : Value} {xs : List (Int × Int)} (h : PairsAt w v xs) (hg : w.grownBy w' none) : PairsAt w' v xs := h.kept hg (fun g e => by cases e)
theorem PairsAt.below {w w' : World} {v : Value} {xs : List (Int × Int)} (h : PairsAt w v xs) (hb : Below w.heap.size w w') : PairsAt w' v xs := h.grow (only_of_below hb none)

theorem holds_block {w w' : World} {b : Nat} {d : Array (Int × Int)} (h : HoldsK encP 2 w b 0 d) (hb : w'.heap[b]? = w.heap[b]?) : HoldsK encP 2 w' b 0 d := fun j hj => by
  rw [World.cell?_of_block (w := w) (w' := w') (a := ⟨b, 0 + j, none⟩) hb, World.frozen?_of_block (w := w) (w' := w') (a := ⟨b, 0 + j, none⟩) hb]
  exact h j hj
theorem OwnPairs.kept {w w' : World} {B : Nat} {v : Value} {xs : List (Int × Int)} (h : OwnPairs w B v xs) {row : Option Nat} (hg : w.grownBy w' row) (hr : ∀ g, row = some g → ∀ b cap, v = .slice (some ⟨b, 0, none⟩) xs.length cap → b ≠ g) : OwnPairs w' B v xs := by
  rcases h with h | ⟨b, cap, h1, h2, h3, h4, h5, h6⟩
  · exact .inl h
  · have hb : w'.heap[b]? = w.heap[b]? := hg.block b h5 (fun e => hr b e.symm b cap h1 rfl)
    exact .inr ⟨b, cap, h1, h2, h3, h4, Nat.lt_of_lt_of_le h5 hg.size, holds_block h6 hb⟩
theorem OwnPairs.below {w w' : World} {B : Nat} {v : Value} {xs : List (Int × Int)} (h : OwnPairs w B v xs) (hb : Below w.heap.size w w') : OwnPairs w' B v xs := h.kept (only_of_below hb none) (fun g e => by cases e)
theorem OwnPairs.mono {w : World} {B B' : Nat} {v : Value} {xs : List (Int × Int)} (h : OwnPairs w B v xs) (hB : B' ≤ B) : OwnPairs w B' v xs := by
  rcases h with h | ⟨b, cap, h1, h2, h3, h4, h5, h6⟩
  · exact .inl h
  · exact .inr ⟨b, cap, h1, h2, h3, Nat.le_trans hB h4, h5, h6⟩

/-- The flat cells of a list. -/
def flatL (xs : List (Int × Int)) : List Value := (flatK encP 2 xs.toArray).toList
theorem flatL_len (xs : List (Int × Int)) : (flatL xs).length = xs.length * 2 := by simp [flatL]
theorem flatL_get (xs : List (Int × Int)) (j : Nat) (h : j < xs.length * 2) : (flatL xs)[j]? = some ((encP xs[j / 2]!)[j % 2]!) := by
  have := get_flatK encP 2 xs.toArray j (by simpa using h)
  simp only [List.getElem!_toArray] at this
  rw [flatL, Array.getElem?_toList, ← this]
  rw [getElem!_pos _ _ (by simpa using h), Array.getElem?_eq_getElem]

theorem PairsAt.cells {w : World} {b off : Nat} {xs : List (Int × Int)} (h : ∀ i, i < xs.length → w.cell? ⟨b, off + i * 2, none⟩ = some (.int .i64 (xs[i]!).1) ∧ w.cell? ⟨b, off + i * 2 + 1, none⟩ = some (.int .i64 (xs[i]!).2)) :
    ∀ j u, (flatL xs)[j]? = some u → w.cell? ⟨b, off + j, none⟩ = some u := by
  intro j u hu
  have hj : j < xs.length * 2 := by
    have := (List.getElem?_eq_some_iff.1 hu).1
    rwa [flatL_len] at this
  rw [flatL_get xs j hj] at hu
  have hi := h (j / 2) (by omega)
  rcases Nat.mod_two_eq_zero_or_one j with e | e
  · rw [e, encP_get0] at hu
    rw [show off + j = off + j / 2 * 2 by omega, hi.1]
    exact hu
  · rw [e, encP_get1] at hu
    rw [show off + j = off + j / 2 * 2 + 1 by omega, hi.2]
    exact hu

theorem flatL_one (xs : List (Int × Int)) : ∀ u ∈ flatL xs, u.oneCell' = true := by
  intro u hu
  obtain ⟨j, hj, rfl⟩ := List.getElem_of_mem hu
  have hj' : j < xs.length * 2 := by rwa [flatL_len] at hj
  have := flatL_get xs j hj'
  rw [List.getElem?_eq_getElem hj] at this
  injection this with this
  rw [this]
  rcases Nat.mod_two_eq_zero_or_one j with e | e <;> rw [e] <;> rfl

/-- A row that the call owns holds its list. -/
theorem holds_of_owns {w : World} {base : Nat} {v : Value} {xs : List (Int × Int)} (h : w.ownsRow base 46 2 v xs.length (flatL xs)) (hn : v ≠ .slice none 0 0) : OwnPairs w base v xs := by
  obtain ⟨_, h | ⟨g, cap, cur, h1, h2, h3, h4, h5, h6, h7⟩⟩ := h
  · exact absurd h.1 hn
  · refine .inr ⟨g, cap, h1, h4, h5, h2, lt_of_block h3, fun j hj => ?_⟩
    have hj' : j < xs.length * 2 := by simpa using hj
    have hc : (flatL xs)[j]? = some (flatK encP 2 xs.toArray)[j]! := by
      rw [flatL, Array.getElem?_toList, Array.getElem?_eq_getElem (by simpa using hj'), getElem!_pos _ _ (by simpa using hj')]
    have hcur : cur[j]? = some (flatK encP 2 xs.toArray)[j]! := by
      rw [← hc, ← h7, List.getElem?_take, if_pos hj', Array.getElem?_toList]
    refine ⟨?_, ?_⟩
    · simp [World.cell?, h3, hcur]
    · simp [World.frozen?, h3]
end Go.Proofs.YtplkkkkcmfgkfaaGreat
