/- formula.Size and Depth. -/
import Derived.Test.YtpiiadmjddikfaaDoorTree
namespace Go.Proofs.YtpiiadmjddikfaaDoor
set_option linter.unusedVariables false
set_option linter.unusedSimpArgs false
open Go.RowKit

set_option maxRecDepth 100000 in
set_option maxHeartbeats 400000 in
theorem size_any : ∀ (t : Tree) (v : Value) (w : World), FormAt w none v t → t.nodes ≤ 1000000000 →
    Calls Tryd.prog 12 #[v] w fun e w' => e = .returned (.int .i64 t.nodes) ∧ Below w.heap.size w w' := by
  refine Tree.ind fun op name ts ih v w hv hn => ?_
  obtain ⟨a, cap, b, off, rfl, hop, hname, hlen, hcap, ha, hc⟩ := hv.form
  simp only [Tree.op_node, Tree.name_node, Tree.args_node] at *
  have HN : Hid ((Tree.node op name ts).nodes = 1 + nodesL ts) := by show _ = _; simp [Tree.nodes]
  have hn' : 1 + nodesL ts ≤ 1000000000 := by rw [← HN.out]; exact hn
  have hlt : ts.length ≤ nodesL ts := nodes_len_le ts
  have HA := hidIt ha
  have HC := hidIt hc
  have IH := hidIt ih
  unfold maxLen at hcap
  clear hn ha hc ih hv
  go_enter Tryd.func12, Tryd.ntmps12
  go_wp2_with fail
  go_loopw [3, 9] (fun t i wr => ∃ k : Nat, k ≤ ts.length ∧ i = .int .i64 k ∧ t = .int .i64 (1 + nodesL (ts.take k) : Nat) ∧ Hid (Below w.heap.size w wr)) (fun _ i _ => ts.length - (intOf i).toNat)
  case atStart => exact ⟨0, Nat.zero_le _, rfl, by simp [nodesL], (Below.refl _ _).alloc (Nat.le_refl _) _⟩
  case round =>
    obtain ⟨k, hk, rfl, rfl, hbel⟩ := hrel
    by_cases hlt : k < ts.length
    · obtain ⟨a', cap', c0, c1, c2, hf⟩ := HC.out k hlt
      obtain ⟨rfl, -⟩ := HA.out (by omega)
      have hbw : b < w.heap.size := World.block_lt_of_cell? w ⟨b, off + k * 3, none⟩ c0
      rw [← hbel.out.cell (p := ⟨b, off + k * 3, none⟩) hbw] at c0
      rw [← hbel.out.cell (p := ⟨b, off + k * 3 + 1, none⟩) hbw] at c1
      rw [← hbel.out.cell (p := ⟨b, off + k * 3 + 2, none⟩) hbw] at c2
      have HF := hidIt (hf.go hbel.out)
      have hs := nodesL_take ts k hlt
      have hs2 := nodesL_take_le ts (k + 1)
      have HS := hidIt hs
      have hb1 : nodesL (ts.take k) ≤ 1000000000 := by omega
      have hb2 : nodesL (ts.take k) + (ts[k]).nodes ≤ 1000000000 := by omega
      have hm : ts[k] ∈ ts := List.getElem_mem hlt
      clear hf hs hs2
      generalize ts[k] = t at *
      go_wp2_with fail
      refine (IH.out _ hm _ _ (HF.out.go ((Below.refl _ _).alloc (Nat.le_refl _) _)) (by omega)).mono ?_
      rintro e w' ⟨rfl, hb⟩
      have HB := hidIt (hbel.out.trans ((below_box hb).mono hbel.out.size))
      clear hb
      go_wp2_with fail
      go_roundw
      case rel => exact ⟨k + 1, by omega, by go_num, by rw [HS.out]; go_num, HB.out⟩
      case measure => simp [intOf]; omega
    · go_wp2
      go_ret
      exact ⟨ret_int (by rw [HN.out, List.take_of_length_le (by omega)]), hbel.out⟩

set_option maxRecDepth 100000 in
set_option maxHeartbeats 400000 in
theorem depth_any : ∀ (t : Tree) (v : Value) (w : World), FormAt w none v t → t.nodes ≤ 1000000000 →
    Calls Tryd.prog 14 #[v] w fun e w' => e = .returned (.int .i64 t.depth) ∧ Below w.heap.size w w' := by
  refine Tree.ind fun op name ts ih v w hv hn => ?_
  obtain ⟨a, cap, b, off, rfl, hop, hname, hlen, hcap, ha, hc⟩ := hv.form
  simp only [Tree.op_node, Tree.name_node, Tree.args_node] at *
  have HN : Hid ((Tree.node op name ts).nodes = 1 + nodesL ts) := by show _ = _; simp [Tree.nodes]
  have HD : Hid ((Tree.node op name ts).depth = depthL ts) := by show _ = _; simp [Tree.depth]
  have hn' : 1 + nodesL ts ≤ 1000000000 := by rw [← HN.out]; exact hn
  have hlt : ts.length ≤ nodesL ts := nodes_len_le ts
  have HA := hidIt ha
  have HC := hidIt hc
  have IH := hidIt ih
  unfold maxLen at hcap
  clear hn ha hc ih hv
  go_enter Tryd.func14, Tryd.ntmps14
  go_wp2_with fail
  go_loopw [3, 9] (fun t i wr => ∃ k : Nat, k ≤ ts.length ∧ i = .int .i64 k ∧ t = .int .i64 (depthL (ts.take k) : Nat) ∧ Hid (Below w.heap.size w wr)) (fun _ i _ => ts.length - (intOf i).toNat)
  case atStart => exact ⟨0, Nat.zero_le _, rfl, by simp [depthL], (Below.refl _ _).alloc (Nat.le_refl _) _⟩
  case round =>
    obtain ⟨k, hk, rfl, rfl, hbel⟩ := hrel
    by_cases hlt : k < ts.length
    · obtain ⟨a', cap', c0, c1, c2, hf⟩ := HC.out k hlt
      obtain ⟨rfl, -⟩ := HA.out (by omega)
      have hbw : b < w.heap.size := World.block_lt_of_cell? w ⟨b, off + k * 3, none⟩ c0
      rw [← hbel.out.cell (p := ⟨b, off + k * 3, none⟩) hbw] at c0
      rw [← hbel.out.cell (p := ⟨b, off + k * 3 + 1, none⟩) hbw] at c1
      rw [← hbel.out.cell (p := ⟨b, off + k * 3 + 2, none⟩) hbw] at c2
      have HF := hidIt (hf.go hbel.out)
      have hs := nodesL_take ts k hlt
      have hs2 := nodesL_take_le ts (k + 1)
      have HS := hidIt (depthL_take ts k hlt)
      have hd1 : depthL (ts.take k) ≤ 1000000000 := by
        have h1 := depthL_take_le ts k
        have h2 := depth_lt_nodes (Tree.node op name ts)
        rw [HN.out, HD.out] at h2
        omega
      have hd2 : (ts[k]).depth < (ts[k]).nodes := depth_lt_nodes _
      have hb1 : nodesL (ts.take k) ≤ 1000000000 := by omega
      have hb2 : nodesL (ts.take k) + (ts[k]).nodes ≤ 1000000000 := by omega
      have hm : ts[k] ∈ ts := List.getElem_mem hlt
      clear hf hs hs2
      generalize ts[k] = t at *
      go_wp2_with fail
      refine (IH.out _ hm _ _ (HF.out.go ((Below.refl _ _).alloc (Nat.le_refl _) _)) (by omega)).mono ?_
      rintro e w' ⟨rfl, hb⟩
      have HB := hidIt (hbel.out.trans ((below_box hb).mono hbel.out.size))
      clear hb
      go_wp2_with fail
      go_roundw
      case rel => exact ⟨k + 1, by omega, by go_num, by rw [HS.out]; go_num, HB.out⟩
      case measure => simp [intOf]; omega
    · go_wp2
      go_ret
      exact ⟨ret_int (by rw [HD.out, List.take_of_length_le (by omega)]), hbel.out⟩
end Go.Proofs.YtpiiadmjddikfaaDoor
