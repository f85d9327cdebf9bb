/- A value that is a list of literals: where its cells lie, and what keeps it so. -/
import Derived.Test.YtbldlngblmegfaaCompact
namespace Go.Proofs.Ytbldlngblmegfaa
open Go.RowKit Go.Sort

/-- The value is a list of literals that reads as xs. -/
def LitsAt (w : World) (v : Value) (xs : List Lt) : Prop :=
  (v = .slice none 0 0 ∧ xs = []) ∨
  ∃ (b off cap : Nat), v = .slice (some ⟨b, off, none⟩) xs.length cap ∧ xs.length ≤ cap ∧ cap ≤ maxLen ∧ b < w.heap.size ∧
    ∀ i, i < xs.length → w.cell? ⟨b, off + i * 2, none⟩ = some (.bool (xs[i]!).neg) ∧ w.cell? ⟨b, off + i * 2 + 1, none⟩ = some (.string (xs[i]!).name)

/-- .. and lies in a block that may be written whole, from block B on. -/
def OwnLits (w : World) (B : Nat) (v : Value) (xs : List Lt) : Prop :=
  (v = .slice none 0 0 ∧ xs = []) ∨
  ∃ (b cap : Nat), v = .slice (some ⟨b, 0, none⟩) xs.length cap ∧ xs.length ≤ cap ∧ cap ≤ maxLen ∧ B ≤ b ∧ b < w.heap.size ∧ HoldsK encL 2 w b 0 xs.toArray

theorem OwnLits.lits {w : World} {B : Nat} {v : Value} {xs : List Lt} (h : OwnLits w B v xs) : LitsAt w v xs := by
  rcases h with h | ⟨b, cap, h1, h2, h3, h4, h5, h6⟩
  · exact .inl h
  · refine .inr ⟨b, 0, cap, h1, h2, h3, h5, fun i hi => ?_⟩
    have := HoldsK.at0 h6 (show i < xs.toArray.size by simpa using hi)
    simp only [List.getElem!_toArray] at this
    exact ⟨this.1.1, this.2.1⟩

theorem LitsAt.kept {w w' : World} {v : Value} {xs : List Lt} (h : LitsAt w v xs) {row : Option Nat} (hg : w.grownBy w' row) (hr : ∀ g, row = some g → ∀ b off cap, v = .slice (some ⟨b, off, none⟩) xs.length cap → b ≠ g) : LitsAt w' v xs := by
  rcases h with h | ⟨b, off, cap, h1, h2, h3, h4, h5⟩
  · exact .inl h
  · have hb : w'.heap[b]? = w.heap[b]? := hg.block b h4 (fun e => hr b e.symm b off cap h1 rfl)
    refine .inr ⟨b, off, cap, h1, h2, h3, Nat.lt_of_lt_of_le h4 hg.size, fun i hi => ?_⟩
    rw [World.cell?_of_block (w := w) (w' := w') (a := ⟨b, off + i * 2, none⟩) hb, World.cell?_of_block (w := w) (w' := w') (a := ⟨b, off + i * 2 + 1, none⟩) hb]
    exact h5 i hi
theorem LitsAt.grow {w w' : World} {v : Value} {xs : List Lt} (h : LitsAt w v xs) (hg : w.grownBy w' none) : LitsAt w' v xs := h.kept hg (fun g e => by cases e)
theorem LitsAt.below {w w' : World} {v : Value} {xs : List Lt} (h : LitsAt w v xs) (hb : Below w.heap.size w w') : LitsAt w' v xs := h.grow (only_of_below hb none)

theorem holds_block {w w' : World} {b : Nat} {d : Array Lt} (h : HoldsK encL 2 w b 0 d) (hb : w'.heap[b]? = w.heap[b]?) : HoldsK encL 2 w' b 0 d := fun j hj => by
  rw [World.cell?_of_block (w := w) (w' := w') (a := ⟨b, 0 + j, none⟩) hb, World.frozen?_of_block (w := w) (w' := w') (a := ⟨b, 0 + j, none⟩) hb]
  exact h j hj
theorem OwnLits.kept {w w' : World} {B : Nat} {v : Value} {xs : List Lt} (h : OwnLits w B v xs) {row : Option Nat} (hg : w.grownBy w' row) (hr : ∀ g, row = some g → ∀ b cap, v = .slice (some ⟨b, 0, none⟩) xs.length cap → b ≠ g) : OwnLits w' B v xs := by
  rcases h with h | ⟨b, cap, h1, h2, h3, h4, h5, h6⟩
  · exact .inl h
  · have hb : w'.heap[b]? = w.heap[b]? := hg.block b h5 (fun e => hr b e.symm b cap h1 rfl)
    exact .inr ⟨b, cap, h1, h2, h3, h4, Nat.lt_of_lt_of_le h5 hg.size, holds_block h6 hb⟩
theorem OwnLits.below {w w' : World} {B : Nat} {v : Value} {xs : List Lt} (h : OwnLits w B v xs) (hb : Below w.heap.size w w') : OwnLits w' B v xs := h.kept (only_of_below hb none) (fun g e => by cases e)
theorem OwnLits.mono {w : World} {B B' : Nat} {v : Value} {xs : List Lt} (h : OwnLits w B v xs) (hB : B' ≤ B) : OwnLits w B' v xs := by
  rcases h with h | ⟨b, cap, h1, h2, h3, h4, h5, h6⟩
  · exact .inl h
  · exact .inr ⟨b, cap, h1, h2, h3, Nat.le_trans hB h4, h5, h6⟩

/-- The flat cells of a list. -/
def flatL (xs : List Lt) : List Value := (flatK encL 2 xs.toArray).toList
theorem flatL_len (xs : List Lt) : (flatL xs).length = xs.length * 2 := by simp [flatL]
theorem flatL_get (xs : List Lt) (j : Nat) (h : j < xs.length * 2) : (flatL xs)[j]? = some ((encL xs[j / 2]!)[j % 2]!) := by
  have := get_flatK encL 2 xs.toArray j (by simpa using h)
  simp only [List.getElem!_toArray] at this
  rw [flatL, Array.getElem?_toList, ← this]
  rw [getElem!_pos _ _ (by simpa using h), Array.getElem?_eq_getElem]

theorem LitsAt.cells {w : World} {b off : Nat} {xs : List Lt} (h : ∀ i, i < xs.length → w.cell? ⟨b, off + i * 2, none⟩ = some (.bool (xs[i]!).neg) ∧ w.cell? ⟨b, off + i * 2 + 1, none⟩ = some (.string (xs[i]!).name)) :
    ∀ j u, (flatL xs)[j]? = some u → w.cell? ⟨b, off + j, none⟩ = some u := by
  intro j u hu
  have hj : j < xs.length * 2 := by
    have := (List.getElem?_eq_some_iff.1 hu).1
    rwa [flatL_len] at this
  rw [flatL_get xs j hj] at hu
  have hi := h (j / 2) (by omega)
  rcases Nat.mod_two_eq_zero_or_one j with e | e
  · rw [e, encL_get0] at hu
    rw [show off + j = off + j / 2 * 2 by omega, hi.1]
    exact hu
  · rw [e, encL_get1] at hu
    rw [show off + j = off + j / 2 * 2 + 1 by omega, hi.2]
    exact hu

theorem flatL_one (xs : List Lt) : ∀ u ∈ flatL xs, u.oneCell' = true := by
  intro u hu
  obtain ⟨j, hj, rfl⟩ := List.getElem_of_mem hu
  have hj' : j < xs.length * 2 := by rwa [flatL_len] at hj
  have := flatL_get xs j hj'
  rw [List.getElem?_eq_getElem hj] at this
  injection this with this
  rw [this]
  rcases Nat.mod_two_eq_zero_or_one j with e | e <;> rw [e] <;> rfl

/-- A row that the call owns holds its list. -/
theorem holds_of_owns {w : World} {base : Nat} {v : Value} {xs : List Lt} (h : w.ownsRow base 23 2 v xs.length (flatL xs)) (hn : v ≠ .slice none 0 0) : OwnLits w base v xs := by
  obtain ⟨_, h | ⟨g, cap, cur, h1, h2, h3, h4, h5, h6, h7⟩⟩ := h
  · exact absurd h.1 hn
  · refine .inr ⟨g, cap, h1, h4, h5, h2, lt_of_block h3, fun j hj => ?_⟩
    have hj' : j < xs.length * 2 := by simpa using hj
    have hc : (flatL xs)[j]? = some (flatK encL 2 xs.toArray)[j]! := by
      rw [flatL, Array.getElem?_toList, Array.getElem?_eq_getElem (by simpa using hj'), getElem!_pos _ _ (by simpa using hj')]
    have hcur : cur[j]? = some (flatK encL 2 xs.toArray)[j]! := by
      rw [← hc, ← h7, List.getElem?_take, if_pos hj', Array.getElem?_toList]
    refine ⟨?_, ?_⟩
    · simp [World.cell?, h3, hcur]
    · simp [World.frozen?, h3]
end Go.Proofs.Ytbldlngblmegfaa
