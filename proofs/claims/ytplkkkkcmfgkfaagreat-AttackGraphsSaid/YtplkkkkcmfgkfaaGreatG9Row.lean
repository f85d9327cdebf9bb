/- A list of pairs of numbers in memory: two cells for each; the laws on stores into it. -/
import Derived.Test.YtplkkkkcmfgkfaaGreatG9M
import Derived.Test.YtplkkkkcmfgkfaaGreatKeep
import Derived.Test.YtplkkkkcmfgkfaaGreatShelf
import Derived.WalkKit
import Derived.WalkSpells
import Derived.WalkLawsBesides
import Derived.Shelf.GgSortFunc.RowK
import Derived.Lib.SlicesCompact
import Derived.Lib.SliceRun
import Derived.Laws.IdiomCopy
namespace Go.Proofs.YtplkkkkcmfgkfaaGreat
set_option linter.unusedVariables false
set_option linter.unusedSimpArgs false
open Go.RowKit Go.Sort

/-- The two cells of a literal. -/
def encP (x : (Int × Int)) : List Value := [.int .i64 x.1, .int .i64 x.2]
theorem encP_len (x : (Int × Int)) : (encP x).length = 2 := rfl
theorem encP_one (x : (Int × Int)) : ∀ v ∈ encP x, v.oneCell' = true := fun v hv => by
  simp only [encP, List.mem_cons, List.not_mem_nil, or_false] at hv
  rcases hv with rfl | rfl <;> rfl

theorem encP_get0 (x : (Int × Int)) : (encP x)[0]! = .int .i64 x.1 := rfl
theorem encP_get1 (x : (Int × Int)) : (encP x)[1]! = .int .i64 x.2 := rfl

theorem flat_set (d : Array (Int × Int)) (i : Nat) (x : (Int × Int)) (hi : i < d.size) : setMany (flatK encP 2 d) (i * 2) (encP x) = flatK encP 2 (d.setIfInBounds i x) := by
  refine ext_get! (by simp) fun t ht => ?_
  have ht' : t < d.size * 2 := by simpa using ht
  rw [get_setMany _ _ _ t (by simpa using ht'), get_flatK _ _ _ t ht', get_flatK _ _ _ t (by simpa using ht'), encP_len]
  by_cases h : t / 2 = i
  · rw [if_pos (by omega), h, getElem!_set_same d i x hi, show t - i * 2 = t % 2 by omega]
  · rw [if_neg (by omega), getElem!_set_other d i (t / 2) x h]

theorem size_lay' : ∀ (xs : List (Int × Int)) (d : Array (Int × Int)) (k : Nat), (Lib.lay d k xs).size = d.size
  | [], _, _ => rfl
  | x :: r, d, k => by rw [Lib.lay, size_lay' r]; simp

/-- The flat row behind a run of whole elements. -/
theorem flat_lay (d d2 : Array (Int × Int)) (k : Nat) (hk : k + d2.size ≤ d.size) : setMany (flatK encP 2 d) (k * 2) (flatK encP 2 d2).toList = flatK encP 2 (Lib.lay d k d2.toList) := by
  have hsz : (Lib.lay d k d2.toList).size = d.size := size_lay' _ _ _
  refine ext_get! (by simp [hsz]) fun t ht => ?_
  have ht' : t < d.size * 2 := by simpa using ht
  have hl : (flatK encP 2 d2).toList.length = d2.size * 2 := by simp
  rw [get_setMany _ _ _ t (by simpa using ht'), get_flatK _ _ _ t ht', get_flatK _ _ _ t (by rw [hsz]; exact ht'), hl]
  have hg := Lib.lay_get? d2.toList d k (t / 2) (by simpa using hk)
  by_cases h : k ≤ t / 2 ∧ t / 2 < k + d2.size
  · rw [if_pos (by omega)]
    rw [if_pos (by simpa using h)] at hg
    have e1 : (flatK encP 2 d2).toList[t - k * 2]! = (encP d2[(t - k * 2) / 2]!)[(t - k * 2) % 2]! := by
      have := get_flatK encP 2 d2 (t - k * 2) (by omega)
      rw [← this]
      simp [getElem!_def]
    rw [e1, show (t - k * 2) / 2 = t / 2 - k by omega, show (t - k * 2) % 2 = t % 2 by omega]
    have e2 : (Lib.lay d k d2.toList)[t / 2]! = d2[t / 2 - k]! := by
      rw [getElem!_def, getElem!_def, hg]
      simp
    rw [e2]
  · rw [if_neg (by omega)]
    rw [if_neg (by simpa using h)] at hg
    have e2 : (Lib.lay d k d2.toList)[t / 2]! = d[t / 2]! := by rw [getElem!_def, getElem!_def, hg]
    rw [e2]

/-- A literal stored at place i of a row, a draw on. -/
theorem store_row {w wr : World} {n blk off : Nat} {dk : Array (Int × Int)} {i : Nat} (hi : i < dk.size) (hwr : wr = putRowK encP 2 (Sort.ahead w n) blk off dk) (x : (Int × Int)) :
    (wr.setCell ⟨blk, off + i * 2, none⟩ (.int .i64 x.1)).setCell ⟨blk, off + i * 2 + 1, none⟩ (.int .i64 x.2) = putRowK encP 2 (Sort.ahead w n) blk off (dk.setIfInBounds i x) := by
  subst hwr
  have h := setCells_putRow (Sort.ahead w n) blk off (encP x) (i * 2) (flatK encP 2 dk) (by rw [encP_len, size_flatK]; omega)
  rw [flat_set dk i x hi] at h
  exact h

theorem HoldsK.at0 {w : World} {blk off : Nat} {d : Array (Int × Int)} (h : HoldsK encP 2 w blk off d) {i : Nat} (hi : i < d.size) :
    (w.cell? ⟨blk, off + i * 2, none⟩ = some (.int .i64 d[i]!.1) ∧ w.frozen? ⟨blk, off + i * 2, none⟩ = false) ∧ w.cell? ⟨blk, off + i * 2 + 1, none⟩ = some (.int .i64 d[i]!.2) ∧ w.frozen? ⟨blk, off + i * 2 + 1, none⟩ = false :=
  ⟨HoldsK.cell h hi (show 0 < 2 by omega), HoldsK.cell h hi (show 1 < 2 by omega)⟩

/-- The zero value's cells, n times over. -/
theorem zero_cells (n : Nat) : (Builtin.zeroCells (Value.cells (.agg #[.int .i64 0, .int .i64 0])) n) = flatK encP 2 (Array.replicate n (default : (Int × Int))) := by
  have hs : (Value.cells (.agg #[.int .i64 0, .int .i64 0])) = #[.int .i64 0, .int .i64 0] := rfl
  unfold Builtin.zeroCells flatK
  rw [hs]
  apply Array.ext
  · simp
  · intro i h1 h2
    have hi : i / 2 < n := by simp at h1; omega
    simp only [Array.getElem_map, Array.getElem_range, Array.size_replicate]
    have hd : (Array.replicate n (default : (Int × Int)))[i / 2]! = default := by rw [getElem!_pos _ _ (by simpa using hi)]; simp
    rw [hd]
    rcases Nat.mod_two_eq_zero_or_one i with h | h <;> (show (#[_, _] : Array Value)[i % 2]! = (encP default)[i % 2]!; rw [h]; rfl)

theorem zeroL (w : World) : (zeroValue 46).run Tryz.prog w = .ok (.agg #[.int .i64 0, .int .i64 0]) w := by kernel_rfl

/-- 'clear' of the rest of a row. -/
theorem clear_row (w : World) (ty : TypeId) (blk off n c : Nat) (hn : 0 < n) (d : Array (Int × Int)) (k : Nat) (hk : k + n = d.size) (hH : HoldsK encP 2 w blk off d) (w0 : World) (q : Nat) (hw : w = putRowK encP 2 (Sort.ahead w0 q) blk off d) :
    (Builtin.clear_ #[31] ty #[.slice (some ⟨blk, off + k * 2, none⟩) n c]).run Tryz.prog w = .ok (.tuple #[]) (putRowK encP 2 (Sort.ahead w0 q) blk off (Lib.lay d k (List.replicate n default))) := by
  have hz := zero_cells n
  have hst := run_storeCells_cells (P := Tryz.prog) blk (off + k * 2) (flatK encP 2 (Array.replicate n (default : (Int × Int)))).toList 0 w
    (fun j hj => by
      have hj' : j < n * 2 := by simpa using hj
      have h1 := hH (k * 2 + j) (by rw [size_flatK]; omega)
      rw [show off + k * 2 + 0 + j = off + (k * 2 + j) by omega, h1.1]; rfl)
    (fun j hj => by
      have hj' : j < n * 2 := by simpa using hj
      have h1 := hH (k * 2 + j) (by rw [size_flatK]; omega)
      rw [show off + k * 2 + 0 + j = off + (k * 2 + j) by omega, h1.2])
    (fun v hv => by
      rw [← hz] at hv
      simp only [Builtin.zeroCells, Array.toList_map, List.mem_map] at hv
      obtain ⟨i, _, rfl⟩ := hv
      rcases Nat.mod_two_eq_zero_or_one i with h | h <;> (show ((#[_, _] : Array Value)[i % 2]!).oneCell' = true; rw [h]; rfl))
  simp only [Nat.add_zero] at hst
  have hfin : w.setCells blk (off + k * 2) (flatK encP 2 (Array.replicate n (default : (Int × Int)))).toList = putRowK encP 2 (Sort.ahead w0 q) blk off (Lib.lay d k (List.replicate n default)) := by
    subst hw
    have h := setCells_putRow (Sort.ahead w0 q) blk off (flatK encP 2 (Array.replicate n (default : (Int × Int)))).toList (k * 2) (flatK encP 2 d) (by simp; omega)
    rw [flat_lay d _ k (by simp; omega), Array.toList_replicate] at h
    exact h
  rw [hfin] at hst
  obtain ⟨m, rfl⟩ : ∃ m, n = m + 1 := ⟨n - 1, by omega⟩
  simp [Builtin.clear_, run_underlying Tryz.underlying31, zeroL, hz, hst]
end Go.Proofs.YtplkkkkcmfgkfaaGreat
