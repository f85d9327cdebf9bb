/- A list of pairs of numbers in memory: two cells for each; the laws on stores into it. -/
import Derived.Test.YtfiaoibfejginaaDoorKeep
import Derived.WalkKit
import Derived.WalkSpells
import Derived.WalkLawsBesides
import Derived.Shelf.GgSortFunc.RowK
import Derived.Lib.SlicesCompact
import Derived.Lib.SliceRun
import Derived.Laws.IdiomCopy
import Derived.Laws.StructEq
import Derived.Deep.LoopGhost
namespace Go.Proofs.YtfiaoibfejginaaDoor
set_option linter.unusedVariables false
set_option linter.unusedSimpArgs false
open Go.RowKit Go.Sort

/-- The two cells of a literal. -/
def encP (x : (Int × Int)) : List Value := [.int .i64 x.1, .int .i64 x.2]
theorem encP_len (x : (Int × Int)) : (encP x).length = 2 := rfl
theorem encP_one (x : (Int × Int)) : ∀ v ∈ encP x, v.oneCell' = true := fun v hv => by
  simp only [encP, List.mem_cons, List.not_mem_nil, or_false] at hv
  rcases hv with rfl | rfl <;> rfl

theorem encP_get0 (x : (Int × Int)) : (encP x)[0]! = .int .i64 x.1 := rfl
theorem encP_get1 (x : (Int × Int)) : (encP x)[1]! = .int .i64 x.2 := rfl

theorem flat_set (d : Array (Int × Int)) (i : Nat) (x : (Int × Int)) (hi : i < d.size) : setMany (flatK encP 2 d) (i * 2) (encP x) = flatK encP 2 (d.setIfInBounds i x) := by
  refine ext_get! (by simp) fun t ht => ?_
  have ht' : t < d.size * 2 := by simpa using ht
  rw [get_setMany _ _ _ t (by simpa using ht'), get_flatK _ _ _ t ht', get_flatK _ _ _ t (by simpa using ht'), encP_len]
  by_cases h : t / 2 = i
  · rw [if_pos (by omega), h, getElem!_set_same d i x hi, show t - i * 2 = t % 2 by omega]
  · rw [if_neg (by omega), getElem!_set_other d i (t / 2) x h]

theorem size_lay' : ∀ (xs : List (Int × Int)) (d : Array (Int × Int)) (k : Nat), (Lib.lay d k xs).size = d.size
  | [], _, _ => rfl
  | x :: r, d, k => by rw [Lib.lay, size_lay' r]; simp

/-- The flat row behind a run of whole elements. -/
theorem flat_lay (d d2 : Array (Int × Int)) (k : Nat) (hk : k + d2.size ≤ d.size) : setMany (flatK encP 2 d) (k * 2) (flatK encP 2 d2).toList = flatK encP 2 (Lib.lay d k d2.toList) := by
  have hsz : (Lib.lay d k d2.toList).size = d.size := size_lay' _ _ _
  refine ext_get! (by simp [hsz]) fun t ht => ?_
  have ht' : t < d.size * 2 := by simpa using ht
  have hl : (flatK encP 2 d2).toList.length = d2.size * 2 := by simp
  rw [get_setMany _ _ _ t (by simpa using ht'), get_flatK _ _ _ t ht', get_flatK _ _ _ t (by rw [hsz]; exact ht'), hl]
  have hg := Lib.lay_get? d2.toList d k (t / 2) (by simpa using hk)
  by_cases h : k ≤ t / 2 ∧ t / 2 < k + d2.size
  · rw [if_pos (by omega)]
    rw [if_pos (by simpa using h)] at hg
    have e1 : (flatK encP 2 d2).toList[t - k * 2]! = (encP d2[(t - k * 2) / 2]!)[(t - k * 2) % 2]! := by
      have := get_flatK encP 2 d2 (t - k * 2) (by omega)
      rw [← this]
      simp [getElem!_def]
    rw [e1, show (t - k * 2) / 2 = t / 2 - k by omega, show (t - k * 2) % 2 = t % 2 by omega]
    have e2 : (Lib.lay d k d2.toList)[t / 2]! = d2[t / 2 - k]! := by
      rw [getElem!_def, getElem!_def, hg]
      simp
    rw [e2]
  · rw [if_neg (by omega)]
    rw [if_neg (by simpa using h)] at hg
    have e2 : (Lib.lay d k d2.toList)[t / 2]! = d[t / 2]! := by rw [getElem!_def, getElem!_def, hg]
    rw [e2]

/-- A literal stored at place i of a row, a draw on. -/
theorem store_row {w wr : World} {n blk off : Nat} {dk : Array (Int × Int)} {i : Nat} (hi : i < dk.size) (hwr : wr = putRowK encP 2 (Sort.ahead w n) blk off dk) (x : (Int × Int)) :
    (wr.setCell ⟨blk, off + i * 2, none⟩ (.int .i64 x.1)).setCell ⟨blk, off + i * 2 + 1, none⟩ (.int .i64 x.2) = putRowK encP 2 (Sort.ahead w n) blk off (dk.setIfInBounds i x) := by
  subst hwr
  have h := setCells_putRow (Sort.ahead w n) blk off (encP x) (i * 2) (flatK encP 2 dk) (by rw [encP_len, size_flatK]; omega)
  rw [flat_set dk i x hi] at h
  exact h

theorem HoldsK.at0 {w : World} {blk off : Nat} {d : Array (Int × Int)} (h : HoldsK encP 2 w blk off d) {i : Nat} (hi : i < d.size) :
    (w.cell? ⟨blk, off + i * 2, none⟩ = some (.int .i64 d[i]!.1) ∧ w.frozen? ⟨blk, off + i * 2, none⟩ = false) ∧ w.cell? ⟨blk, off + i * 2 + 1, none⟩ = some (.int .i64 d[i]!.2) ∧ w.frozen? ⟨blk, off + i * 2 + 1, none⟩ = false :=
  ⟨HoldsK.cell h hi (show 0 < 2 by omega), HoldsK.cell h hi (show 1 < 2 by omega)⟩

/-- The zero value's cells, n times over. -/
theorem zero_cells (n : Nat) : (Builtin.zeroCells (Value.cells (.agg #[.int .i64 0, .int .i64 0])) n) = flatK encP 2 (Array.replicate n (default : (Int × Int))) := by
  have hs : (Value.cells (.agg #[.int .i64 0, .int .i64 0])) = #[.int .i64 0, .int .i64 0] := rfl
  unfold Builtin.zeroCells flatK
  rw [hs]
  apply Array.ext
  · simp
  · intro i h1 h2
    have hi : i / 2 < n := by simp at h1; omega
    simp only [Array.getElem_map, Array.getElem_range, Array.size_replicate]
    have hd : (Array.replicate n (default : (Int × Int)))[i / 2]! = default := by rw [getElem!_pos _ _ (by simpa using hi)]; simp
    rw [hd]
    rcases Nat.mod_two_eq_zero_or_one i with h | h <;> (show (#[_, _] : Array Value)[i % 2]! = (encP default)[i % 2]!; rw [h]; rfl)

theorem zeroL (w : World) : (zeroValue 45).run Tryd.prog w = .ok (.agg #[.int .i64 0, .int .i64 0]) w := by kernel_rfl


theorem pairStruct : Tryd.prog.underlying 45 = some (.struct (Tryd.prog.fieldsOf 45)) := by kernel_rfl
theorem pairStood : Tryd.prog.stoodInHeld 45 = false := by kernel_rfl
theorem litGuard : Tryd.prog.eqGuardType Tryd.prog.depth 45 = false := by kernel_rfl
theorem eqFieldsL (g g' : Int) (s s' : Int) (w : World) : (Op.equalIn 10000 45 (.agg #[.int .i64 g, .int .i64 s]) (.agg #[.int .i64 g', .int .i64 s'])).run Tryd.prog w = .ok (decide (((g, s) : Int × Int) = (g', s'))) w := by
  have u4 := Tryd.underlying3
  have e : (decide (((g, s) : Int × Int) = (g', s'))) = ((g == g') && (s == s')) := by
    rw [Bool.eq_iff_iff]
    simp [Prod.mk.injEq]
  rw [show (10000 : Nat) = 9999 + 1 from rfl, run_equalIn_agg w 9999 45 _ _ pairStruct pairStood, e]
  simp only [Program.fieldsOf, Tryd.underlying45]
  go_simp
  by_cases h1 : g = g' <;> by_cases h2 : s = s' <;> simp [h1, h2]

theorem eqL (g g' : Int) (s s' : Int) (w : World) : (binOp .eql 45 (.agg #[.int .i64 g, .int .i64 s]) (.agg #[.int .i64 g', .int .i64 s'])).run Tryd.prog w = .ok (.bool (decide (((g, s) : Int × Int) = (g', s')))) w := by
  rw [run_eql_struct, eqFieldsL]
  rfl
theorem neL (g g' : Int) (s s' : Int) (w : World) : (binOp .neq 45 (.agg #[.int .i64 g, .int .i64 s]) (.agg #[.int .i64 g', .int .i64 s'])).run Tryd.prog w = .ok (.bool (!decide (((g, s) : Int × Int) = (g', s')))) w := by
  rw [run_neq_struct, eqFieldsL]
  rfl
theorem gdL (op : BinOp) (x y : Operand) (g g' : Int) (s s' : Int) (w : World) : (eqGuard op 45 x y (.agg #[.int .i64 g, .int .i64 s]) (.agg #[.int .i64 g', .int .i64 s'])).run Tryd.prog w = .ok () w := run_eqGuard_agg w op 45 x y _ _ litGuard


/-- The value is a list of literals that reads as xs. -/
def PairsAt (w : World) (v : Value) (xs : List (Int × Int)) : Prop :=
  (v = .slice none 0 0 ∧ xs = []) ∨
  ∃ (b off cap : Nat), v = .slice (some ⟨b, off, none⟩) xs.length cap ∧ xs.length ≤ cap ∧ cap ≤ maxLen ∧ b < w.heap.size ∧
    ∀ i, i < xs.length → w.cell? ⟨b, off + i * 2, none⟩ = some (.int .i64 (xs[i]!).1) ∧ w.cell? ⟨b, off + i * 2 + 1, none⟩ = some (.int .i64 (xs[i]!).2)

/-- .. and lies in a block that may be written whole, from block B on. -/
def OwnPairs (w : World) (B : Nat) (v : Value) (xs : List (Int × Int)) : Prop :=
  (v = .slice none 0 0 ∧ xs = []) ∨
  ∃ (b cap : Nat), v = .slice (some ⟨b, 0, none⟩) xs.length cap ∧ xs.length ≤ cap ∧ cap ≤ maxLen ∧ B ≤ b ∧ b < w.heap.size ∧ HoldsK encP 2 w b 0 xs.toArray

theorem OwnPairs.lits {w : World} {B : Nat} {v : Value} {xs : List (Int × Int)} (h : OwnPairs w B v xs) : PairsAt w v xs := by
  rcases h with h | ⟨b, cap, h1, h2, h3, h4, h5, h6⟩
  · exact .inl h
  · refine .inr ⟨b, 0, cap, h1, h2, h3, h5, fun i hi => ?_⟩
    have := HoldsK.at0 h6 (show i < xs.toArray.size by simpa using hi)
    simp only [List.getElem!_toArray] at this
    exact ⟨this.1.1, this.2.1⟩

theorem PairsAt.kept {w w' : World} {v : Value} {xs : List (Int × Int)} (h : PairsAt w v xs) {row : Option Nat} (hg : w.grownBy w' row) (hr : ∀ g, row = some g → ∀ b off cap, v = .slice (some ⟨b, off, none⟩) xs.length cap → b ≠ g) : PairsAt w' v xs := by
  rcases h with h | ⟨b, off, cap, h1, h2, h3, h4, h5⟩
  · exact .inl h
  · have hb : w'.heap[b]? = w.heap[b]? := hg.block b h4 (fun e => hr b e.symm b off cap h1 rfl)
    refine .inr ⟨b, off, cap, h1, h2, h3, Nat.lt_of_lt_of_le h4 hg.size, fun i hi => ?_⟩
    rw [World.cell?_of_block (w := w) (w' := w') (a := ⟨b, off + i * 2, none⟩) hb, World.cell?_of_block (w := w) (w' := w') (a := ⟨b, off + i * 2 + 1, none⟩) hb]
    exact h5 i hi
theorem PairsAt.grow {w w' : World} {v : Value} {xs : List (Int × Int)} (h : PairsAt w v xs) (hg : w.grownBy w' none) : PairsAt w' v xs := h.kept hg (fun g e => by cases e)
theorem PairsAt.below {w w' : World} {v : Value} {xs : List (Int × Int)} (h : PairsAt w v xs) (hb : Below w.heap.size w w') : PairsAt w' v xs := h.grow (only_of_below hb none)

theorem holds_block {w w' : World} {b : Nat} {d : Array (Int × Int)} (h : HoldsK encP 2 w b 0 d) (hb : w'.heap[b]? = w.heap[b]?) : HoldsK encP 2 w' b 0 d := fun j hj => by
  rw [World.cell?_of_block (w := w) (w' := w') (a := ⟨b, 0 + j, none⟩) hb, World.frozen?_of_block (w := w) (w' := w') (a := ⟨b, 0 + j, none⟩) hb]
  exact h j hj
theorem OwnPairs.kept {w w' : World} {B : Nat} {v : Value} {xs : List (Int × Int)} (h : OwnPairs w B v xs) {row : Option Nat} (hg : w.grownBy w' row) (hr : ∀ g, row = some g → ∀ b cap, v = .slice (some ⟨b, 0, none⟩) xs.length cap → b ≠ g) : OwnPairs w' B v xs := by
  rcases h with h | ⟨b, cap, h1, h2, h3, h4, h5, h6⟩
  · exact .inl h
  · have hb : w'.heap[b]? = w.heap[b]? := hg.block b h5 (fun e => hr b e.symm b cap h1 rfl)
    exact .inr ⟨b, cap, h1, h2, h3, h4, Nat.lt_of_lt_of_le h5 hg.size, holds_block h6 hb⟩
theorem OwnPairs.below {w w' : World} {B : Nat} {v : Value} {xs : List (Int × Int)} (h : OwnPairs w B v xs) (hb : Below w.heap.size w w') : OwnPairs w' B v xs := h.kept (only_of_below hb none) (fun g e => by cases e)
theorem OwnPairs.mono {w : World} {B B' : Nat} {v : Value} {xs : List (Int × Int)} (h : OwnPairs w B v xs) (hB : B' ≤ B) : OwnPairs w B' v xs := by
  rcases h with h | ⟨b, cap, h1, h2, h3, h4, h5, h6⟩
  · exact .inl h
  · exact .inr ⟨b, cap, h1, h2, h3, Nat.le_trans hB h4, h5, h6⟩

/-- The flat cells of a list. -/
def flatL (xs : List (Int × Int)) : List Value := (flatK encP 2 xs.toArray).toList
theorem flatL_len (xs : List (Int × Int)) : (flatL xs).length = xs.length * 2 := by simp [flatL]
theorem flatL_get (xs : List (Int × Int)) (j : Nat) (h : j < xs.length * 2) : (flatL xs)[j]? = some ((encP xs[j / 2]!)[j % 2]!) := by
  have := get_flatK encP 2 xs.toArray j (by simpa using h)
  simp only [List.getElem!_toArray] at this
  rw [flatL, Array.getElem?_toList, ← this]
  rw [getElem!_pos _ _ (by simpa using h), Array.getElem?_eq_getElem]

theorem PairsAt.cells {w : World} {b off : Nat} {xs : List (Int × Int)} (h : ∀ i, i < xs.length → w.cell? ⟨b, off + i * 2, none⟩ = some (.int .i64 (xs[i]!).1) ∧ w.cell? ⟨b, off + i * 2 + 1, none⟩ = some (.int .i64 (xs[i]!).2)) :
    ∀ j u, (flatL xs)[j]? = some u → w.cell? ⟨b, off + j, none⟩ = some u := by
  intro j u hu
  have hj : j < xs.length * 2 := by
    have := (List.getElem?_eq_some_iff.1 hu).1
    rwa [flatL_len] at this
  rw [flatL_get xs j hj] at hu
  have hi := h (j / 2) (by omega)
  rcases Nat.mod_two_eq_zero_or_one j with e | e
  · rw [e, encP_get0] at hu
    rw [show off + j = off + j / 2 * 2 by omega, hi.1]
    exact hu
  · rw [e, encP_get1] at hu
    rw [show off + j = off + j / 2 * 2 + 1 by omega, hi.2]
    exact hu

theorem flatL_one (xs : List (Int × Int)) : ∀ u ∈ flatL xs, u.oneCell' = true := by
  intro u hu
  obtain ⟨j, hj, rfl⟩ := List.getElem_of_mem hu
  have hj' : j < xs.length * 2 := by rwa [flatL_len] at hj
  have := flatL_get xs j hj'
  rw [List.getElem?_eq_getElem hj] at this
  injection this with this
  rw [this]
  rcases Nat.mod_two_eq_zero_or_one j with e | e <;> rw [e] <;> rfl

/-- A row that the call owns holds its list. -/
theorem holds_of_owns {w : World} {base : Nat} {v : Value} {xs : List (Int × Int)} (h : w.ownsRow base 45 2 v xs.length (flatL xs)) (hn : v ≠ .slice none 0 0) : OwnPairs w base v xs := by
  obtain ⟨_, h | ⟨g, cap, cur, h1, h2, h3, h4, h5, h6, h7⟩⟩ := h
  · exact absurd h.1 hn
  · refine .inr ⟨g, cap, h1, h4, h5, h2, lt_of_block h3, fun j hj => ?_⟩
    have hj' : j < xs.length * 2 := by simpa using hj
    have hc : (flatL xs)[j]? = some (flatK encP 2 xs.toArray)[j]! := by
      rw [flatL, Array.getElem?_toList, Array.getElem?_eq_getElem (by simpa using hj'), getElem!_pos _ _ (by simpa using hj')]
    have hcur : cur[j]? = some (flatK encP 2 xs.toArray)[j]! := by
      rw [← hc, ← h7, List.getElem?_take, if_pos hj', Array.getElem?_toList]
    refine ⟨?_, ?_⟩
    · simp [World.cell?, h3, hcur]
    · simp [World.frozen?, h3]
end Go.Proofs.YtfiaoibfejginaaDoor
