/- Rows of ints that a call makes; Meet: the program's and the reference's; the reference's Compare. -/
import Derived.Test.YtihmdnbeonefcaaDoorL1C
import Derived.Test.YtihmdnbeonefcaaDoorL1A
namespace Go.Proofs.YtihmdnbeonefcaaDoor
set_option linter.unusedVariables false
set_option linter.unusedSimpArgs false
open Go Go.RowKit Go.Sort

/-- A block that holds a row of ints. -/
def IR (w : World) (b : Nat) (zs : List Int) : Prop := w.heap[b]? = some (.cells (intRow zs) 3 (0, 0))
theorem intRow_size (zs : List Int) : (intRow zs).size = zs.length := by simp [intRow]
theorem intRow_set (zs : List Int) (i : Nat) (z : Int) : (intRow zs).setIfInBounds i (.int .i64 z) = intRow (zs.set i z) := by
  unfold intRow
  rw [List.map_set]
  simp
theorem IR.cell {w : World} {b : Nat} {zs : List Int} (h : IR w b zs) {i : Nat} (hi : i < zs.length) : w.cell? ⟨b, i, none⟩ = some (.int .i64 zs[i]) := int_cell h i hi
theorem IR.ex {w : World} {b : Nat} {zs : List Int} (h : IR w b zs) {i : Nat} (hi : i < zs.length) : ∃ z, w.cell? ⟨b, i, none⟩ = some (.int .i64 z) := ⟨_, h.cell hi⟩
theorem IR.free {w : World} {b : Nat} {zs : List Int} (h : IR w b zs) (i : Nat) : w.frozen? ⟨b, i, none⟩ = false := free_any h i
theorem IR.set {w : World} {b : Nat} {zs : List Int} (h : IR w b zs) (i : Nat) (z : Int) : IR (w.setCell ⟨b, i, none⟩ (.int .i64 z)) b (zs.set i z) := by
  unfold IR
  rw [set_cells h, intRow_set]
theorem IR.go {w w' : World} {b : Nat} {zs : List Int} (h : IR w b zs) (hb : Below w.heap.size w w') : IR w' b zs := blk_kept2 h hb
theorem IR.lt {w : World} {b : Nat} {zs : List Int} (h : IR w b zs) : b < w.heap.size := lt_of_block h
theorem IR.il {w : World} {b : Nat} {zs : List Int} (h : IR w b zs) {c : Nat} (hc : zs.length ≤ c) (hm : c ≤ maxLen) : IL w (.slice (some ⟨b, 0, none⟩) zs.length c) zs :=
  .inr ⟨b, 0, c, rfl, hc, hm, h.lt, fun i hi => by rw [Nat.zero_add]; exact h.cell hi⟩
theorem made_ints (n : Nat) : madeCells #[.int .i64 0] n = intRow (List.replicate n 0) := by
  apply Array.ext_getElem?
  intro i
  by_cases h : i < n
  · have h2 : (intRow (List.replicate n 0))[i]? = some (.int .i64 0) := by simp [intRow, h]
    rw [h2]
    unfold madeCells
    simp [h]
    rw [show i % 1 = 0 from Nat.mod_one i]
    rfl
  · have h1 : (intRow (List.replicate n 0))[i]? = none := Array.getElem?_eq_none (by rw [intRow_size, List.length_replicate]; omega)
    rw [h1]
    unfold madeCells
    simp
    omega
theorem make_intsR (n : Nat) (hn : n ≤ 1000000) (w : World) : (Instr.makeSlice 22 (.int .i64 (n : Int)) (.int .i64 (n : Int))).run Tryd.prog w = .ok (.slice (some ⟨w.heap.size, 0, none⟩) n n) (w.alloc (.cells (intRow (List.replicate n 0)) 3)) := by
  obtain ⟨i0, hi, hz0, hz1, hz2⟩ := info_parts infoI9
  have hr := run_make (P := Tryd.prog) w 22 3 i0 _ Tryd.underlying22 hi hz0 .i64 .i64 (n : Int) (n : Int) (by omega) (by omega) (by rw [hz2]; omega) (by omega)
  rw [hz1] at hr
  simp only [Int.toNat_natCast, Nat.mul_one] at hr
  rw [← made_ints]
  exact hr

/-- What Meet's row holds before round k. -/
def meetAt (xs ys : List Int) (n k : Nat) : List Int := (meetF xs ys).take k ++ List.replicate (n - k) 0
theorem meetAt_len {xs ys : List Int} {n k : Nat} (hn : n = min xs.length ys.length) (hk : k ≤ n) : (meetAt xs ys n k).length = n := by
  unfold meetAt
  rw [List.length_append, List.length_take, meetF_len, List.length_replicate]
  omega
theorem meetAt_set {xs ys : List Int} {n k : Nat} (hn : n = min xs.length ys.length) (hk : k < n) (v : Int) : (meetAt xs ys n k).set k v = (meetF xs ys).take k ++ v :: List.replicate (n - (k + 1)) 0 := by
  unfold meetAt
  have hl : ((meetF xs ys).take k).length = k := by rw [List.length_take, meetF_len]; omega
  rw [List.set_append_right (h := by omega), hl, Nat.sub_self, show n - k = n - (k + 1) + 1 by omega, List.replicate_succ]
  rfl
theorem meetAt_step {xs ys : List Int} {n k : Nat} (hn : n = min xs.length ys.length) (hk : k < n) (h1 : k < xs.length) (h2 : k < ys.length) : meetAt xs ys n (k + 1) = (meetAt xs ys n k).set k (if xs[k] = ys[k] then xs[k] else 3) := by
  rw [meetAt_set hn hk]
  unfold meetAt
  rw [meetF_take h1 h2, List.append_assoc]
  rfl
theorem meetAt_end {xs ys : List Int} {n : Nat} (hn : n = min xs.length ys.length) : meetAt xs ys n n = meetF xs ys := by
  unfold meetAt
  rw [List.take_of_length_le (by rw [meetF_len]; omega), Nat.sub_self]
  simp

end Go.Proofs.YtihmdnbeonefcaaDoor
