/- The reference's Size, Depth, kinds and names. -/
import Derived.Test.YtpiiadmjddikfaaDoorKinds
import Derived.Test.YtpiiadmjddikfaaDoorIn
import Derived.Test.YtpiiadmjddikfaaDoorRefV
namespace Go.Proofs.YtpiiadmjddikfaaDoor
set_option linter.unusedVariables false
set_option linter.unusedSimpArgs false
open Go.RowKit

set_option maxRecDepth 100000 in
set_option maxHeartbeats 1000000 in
theorem qsize_any : ∀ (t : Tree) (v : Value) (w : World), FormAt w none v t → t.nodes ≤ 1000000000 →
    Calls Tryd.prog 13 #[v] w fun e w' => e = .returned (.int .i64 t.nodes) ∧ Below w.heap.size w w' := by
  refine Tree.ind fun op name ts ih v w hv hn => ?_
  obtain ⟨a, cap, b, off, rfl, hop, hname, hlen, hcap, -, -⟩ := hv.form
  have HV := hidIt hv.forms
  simp only [Tree.op_node, Tree.name_node, Tree.args_node] at *
  have HN : Hid ((Tree.node op name ts).nodes = 1 + nodesL ts) := by show _ = _; simp [Tree.nodes]
  have hn' : 1 + nodesL ts ≤ 1000000000 := by rw [← HN.out]; exact hn
  have hlt : ts.length ≤ nodesL ts := nodes_len_le ts
  have IH := hidIt ih
  unfold maxLen at hcap
  clear ih hv hn
  go_enter Tryd.func13, Tryd.ntmps13
  go_wp2_with fail
  have hb0 : Below w.heap.size w (w.alloc (.cells #[.int .i64 op, .string name, .slice a ts.length cap] 24)) := (Below.refl _ _).alloc (Nat.le_refl _) _
  have HB0 := hidIt hb0
  have HX : Hid ((w.alloc (.cells #[.int .i64 op, .string name, .slice a ts.length cap] 24)).heap[w.heap.size]? = some (.cells #[.int .i64 op, .string name, .slice a ts.length cap] 24 (0, 0))) := heap_alloc_new w _
  clear hb0
  generalize (w.alloc (.cells #[.int .i64 op, .string name, .slice a ts.length cap] 24)) = W at *
  go_loopw [3, 4] (fun t i wr => ∃ k : Nat, k ≤ ts.length ∧ i = .int .i64 k ∧ t = .int .i64 (1 + nodesL (ts.take k) : Nat) ∧ Hid (Below W.heap.size W wr)) (fun _ i _ => ts.length - (intOf i).toNat)
  case atStart => exact ⟨0, Nat.zero_le _, rfl, by simp [nodesL], Below.refl _ _⟩
  case round =>
    obtain ⟨k, hk, rfl, rfl, hbel⟩ := hrel
    have HBw := hidIt (HB0.out.trans (hbel.out.mono HB0.out.size))
    have kX := blk_kept HX.out hbel.out
    obtain ⟨x0, x1, x2⟩ := cell_of3 kX
    have hlx := lt_of_block kX
    clear kX
    by_cases hlt : k < ts.length
    · obtain ⟨b', off', a', c', rfl, c0, c1, c2, hf⟩ := (HV.out.go HBw.out).at k hlt
      have HF := hidIt hf
      have hs := nodesL_take ts k hlt
      have hs2 := nodesL_take_le ts (k + 1)
      have HS := hidIt hs
      have hb1 : nodesL (ts.take k) ≤ 1000000000 := by omega
      have hb2 : nodesL (ts.take k) + (ts[k]).nodes ≤ 1000000000 := by omega
      have hm : ts[k] ∈ ts := List.getElem_mem hlt
      clear hf hs hs2
      generalize ts[k] = t at *
      have hlt0 : (k : Int) < (ts.length : Int) := by omega
      have hk0 : (0 : Int) ≤ (k : Int) := by omega
      have hb3 : t.nodes ≤ 1000000000 := by omega
      go_wp2_with fail
      refine (IH.out t hm _ _ HF.out hb3).mono ?_
      rintro e w5 ⟨rfl, h5⟩
      have HB5 : Hid (Below W.heap.size W w5) := hbel.out.trans (Below.mono h5 hbel.out.size)
      clear h5
      go_wp2_with fail
      go_roundw
      case rel => exact ⟨k + 1, by omega, by go_num, by rw [HS.out]; go_num, HB5.out⟩
      case measure => simp [intOf]; omega
    · go_wp2_with fail
      go_ret
      exact ⟨ret_int (by rw [HN.out, List.take_of_length_le (by omega)]), HBw.out⟩
set_option maxRecDepth 100000 in
set_option maxHeartbeats 1000000 in
theorem qdepth_any : ∀ (t : Tree) (v : Value) (w : World), FormAt w none v t → t.nodes ≤ 1000000000 →
    Calls Tryd.prog 15 #[v] w fun e w' => e = .returned (.int .i64 t.depth) ∧ Below w.heap.size w w' := by
  refine Tree.ind fun op name ts ih v w hv hn => ?_
  obtain ⟨a, cap, b, off, rfl, hop, hname, hlen, hcap, -, -⟩ := hv.form
  have HV := hidIt hv.forms
  simp only [Tree.op_node, Tree.name_node, Tree.args_node] at *
  have HN : Hid ((Tree.node op name ts).nodes = 1 + nodesL ts) := by show _ = _; simp [Tree.nodes]
  have HD : Hid ((Tree.node op name ts).depth = depthL ts) := by show _ = _; simp [Tree.depth]
  have hn' : 1 + nodesL ts ≤ 1000000000 := by rw [← HN.out]; exact hn
  have hlt : ts.length ≤ nodesL ts := nodes_len_le ts
  have IH := hidIt ih
  unfold maxLen at hcap
  clear ih hv hn
  go_enter Tryd.func15, Tryd.ntmps15
  go_wp2_with fail
  have hb0 : Below w.heap.size w (w.alloc (.cells #[.int .i64 op, .string name, .slice a ts.length cap] 24)) := (Below.refl _ _).alloc (Nat.le_refl _) _
  have HB0 := hidIt hb0
  have HX : Hid ((w.alloc (.cells #[.int .i64 op, .string name, .slice a ts.length cap] 24)).heap[w.heap.size]? = some (.cells #[.int .i64 op, .string name, .slice a ts.length cap] 24 (0, 0))) := heap_alloc_new w _
  clear hb0
  generalize (w.alloc (.cells #[.int .i64 op, .string name, .slice a ts.length cap] 24)) = W at *
  go_loopw [3, 4] (fun t i wr => ∃ k : Nat, k ≤ ts.length ∧ i = .int .i64 k ∧ t = .int .i64 (depthL (ts.take k) : Nat) ∧ Hid (Below W.heap.size W wr)) (fun _ i _ => ts.length - (intOf i).toNat)
  case atStart => exact ⟨0, Nat.zero_le _, rfl, by simp [depthL], Below.refl _ _⟩
  case round =>
    obtain ⟨k, hk, rfl, rfl, hbel⟩ := hrel
    have HBw := hidIt (HB0.out.trans (hbel.out.mono HB0.out.size))
    have kX := blk_kept HX.out hbel.out
    obtain ⟨x0, x1, x2⟩ := cell_of3 kX
    have hlx := lt_of_block kX
    clear kX
    by_cases hlt : k < ts.length
    · obtain ⟨b', off', a', c', rfl, c0, c1, c2, hf⟩ := (HV.out.go HBw.out).at k hlt
      have HF := hidIt hf
      have hs := nodesL_take ts k hlt
      have hs2 := nodesL_take_le ts (k + 1)
      have HS := hidIt (depthL_take ts k hlt)
      have hd1 : depthL (ts.take k) ≤ 1000000000 := by
        have h1 := depthL_take_le ts k
        have h2 := depth_lt_nodes (Tree.node op name ts)
        rw [HN.out, HD.out] at h2
        omega
      have hd2 : (ts[k]).depth < (ts[k]).nodes := depth_lt_nodes _
      have hb1 : nodesL (ts.take k) ≤ 1000000000 := by omega
      have hb2 : nodesL (ts.take k) + (ts[k]).nodes ≤ 1000000000 := by omega
      have hm : ts[k] ∈ ts := List.getElem_mem hlt
      clear hf hs hs2
      generalize ts[k] = t at *
      have hlt0 : (k : Int) < (ts.length : Int) := by omega
      have hk0 : (0 : Int) ≤ (k : Int) := by omega
      have hb3 : t.nodes ≤ 1000000000 := by omega
      go_wp2_with fail
      refine (IH.out t hm _ _ HF.out hb3).mono ?_
      rintro e w5 ⟨rfl, h5⟩
      have HB5 : Hid (Below W.heap.size W w5) := hbel.out.trans (Below.mono h5 hbel.out.size)
      clear h5
      go_wp2_with fail
      go_roundw
      case rel => exact ⟨k + 1, by omega, by go_num, by rw [HS.out]; go_num, HB5.out⟩
      case measure => simp [intOf]; omega
    · go_wp2_with fail
      go_ret
      exact ⟨ret_int (by rw [HD.out, List.take_of_length_le (by omega)]), HBw.out⟩

set_option maxRecDepth 100000 in
set_option maxHeartbeats 1000000 in
theorem qkinds_any : ∀ (t : Tree) (v : Value) (w : World), FormAt w none v t →
    Calls Tryd.prog 37 #[v] w fun e w' => e = .returned (.bool (t.all kindB)) ∧ Below w.heap.size w w' := by
  refine Tree.ind fun op name ts ih v w hv => ?_
  obtain ⟨a, cap, b, off, rfl, hop, hname, hlen, hcap, -, -⟩ := hv.form
  have HV := hidIt hv.forms
  have HR : Hid ((Tree.node op name ts).all kindB = (kindB (.node op name ts) && allL kindB ts)) := by show _ = _; simp [Tree.all]
  have HK : Hid (kindB (.node op name ts) = if op = 1 ∨ op = 2 ∨ op = 3 then ts.length == 0
    else if op = 4 then ts.length == 1
    else if op = 5 ∨ op = 6 then decide (2 ≤ ts.length ∧ ts.length ≤ 6)
    else if op = 7 ∨ op = 8 then ts.length == 2
    else false) := rfl
  simp only [Tree.op_node, Tree.name_node, Tree.args_node] at *
  generalize kindB (.node op name ts) = kb at *
  have IH := hidIt ih
  unfold maxLen at hcap
  clear ih hv
  have hnn : (0 : Int) ≤ ts.length := by omega
  obtain ⟨O, hO⟩ : ∃ O : Obj, O = .cells #[.int .i64 op, .string name, .slice a ts.length cap] 24 := ⟨_, rfl⟩
  have hO := hidIt hO
  have hcs : op = 1 ∨ op = 2 ∨ op = 3 ∨ op = 4 ∨ ((op = 5 ∨ op = 6) ∧ (2 : Int) ≤ ts.length) ∨ ((op = 5 ∨ op = 6) ∧ (ts.length : Int) < 2) ∨ op = 7 ∨ op = 8 ∨
      ((op == 1) = false ∧ (op == 2) = false ∧ (op == 3) = false ∧ (op == 4) = false ∧ (op == 5) = false ∧ (op == 6) = false ∧ (op == 7) = false ∧ (op == 8) = false) := by
    simp only [beq_eq_false_iff_ne]
    omega
  rcases hcs with rfl | rfl | rfl | rfl | ⟨rfl | rfl, hn2⟩ | ⟨rfl | rfl, hn2⟩ | rfl | rfl | ⟨e1, e2, e3, e4, e5, e6, e7, e8⟩
  all_goals
    go_enter Tryd.func37, Tryd.ntmps37
    go_wp2_with fail
  all_goals
    rw [← hO.out]
    have HB0 : Hid (Below w.heap.size w (w.alloc O)) := (Below.refl _ _).alloc (Nat.le_refl _) _
    have HX : Hid ((w.alloc O).heap[w.heap.size]? = some O) := heap_alloc_new w _
    generalize w.alloc O = W at *
    rw [hO.out] at HX
    go_loopw [4, 5] (fun ok i wr => ∃ k : Nat, k ≤ ts.length ∧ i = .int .i64 k ∧ ok = .bool (kb && allL kindB (ts.take k)) ∧ Hid (Below W.heap.size W wr)) (fun _ i _ => ts.length - (intOf i).toNat)
    case atStart => exact ⟨0, Nat.zero_le _, rfl, by rw [HK.out]; refine congrArg Value.bool ?_; first | (simp [allL]; done) | (rw [Bool.eq_iff_iff]; simp [allL]; omega) | ((try simp only [beq_eq_false_iff_ne] at *); first | (rw [Bool.eq_iff_iff]; simp_all [allL]; done) | (simp_all [allL]; done) | (trace_state; fail)), Below.refl _ _⟩
    case round =>
      obtain ⟨k, hk, rfl, rfl, hbel⟩ := hrel
      have HBw := hidIt (HB0.out.trans (hbel.out.mono HB0.out.size))
      have kX := blk_kept HX.out hbel.out
      obtain ⟨x0, x1, x2⟩ := cell_of3 kX
      have hlx := lt_of_block kX
      clear kX
      by_cases hlt : k < ts.length
      · obtain ⟨b', off', a', c', rfl, c0, c1, c2, hf⟩ := (HV.out.go HBw.out).at k hlt
        have HF := hidIt hf
        have HS := hidIt (allL_take kindB ts k hlt)
        have hm : ts[k] ∈ ts := List.getElem_mem hlt
        clear hf
        generalize ts[k] = t at *
        have hlt0 : (k : Int) < (ts.length : Int) := by omega
        have hk0 : (0 : Int) ≤ (k : Int) := by omega
        generalize hz : (kb && allL kindB (ts.take k)) = z
        have HZ := hidIt hz
        clear hz
        cases z
        · go_wp2_with fail
          go_roundw
          case rel => exact ⟨k + 1, by omega, by go_num, by rw [HS.out, ← Bool.and_assoc, HZ.out]; rfl, hbel.out⟩
          case measure => simp [intOf]; omega
        · go_wp2_with fail
          refine (IH.out t hm _ _ HF.out).mono ?_
          rintro e w5 ⟨rfl, h5⟩
          have HB5 : Hid (Below W.heap.size W w5) := hbel.out.trans (Below.mono h5 hbel.out.size)
          clear h5
          go_wp2_with fail
          go_roundw
          case rel => exact ⟨k + 1, by omega, by go_num, by rw [HS.out, ← Bool.and_assoc, HZ.out]; rfl, HB5.out⟩
          case measure => simp [intOf]; omega
      · go_wp2_with fail
        go_ret
        exact ⟨ret_bool (by rw [HR.out, List.take_of_length_le (by omega)]), HBw.out⟩

set_option maxRecDepth 100000 in
set_option maxHeartbeats 1000000 in
theorem qnames_any : ∀ (t : Tree) (v : Value) (w : World), FormAt w none v t →
    Calls Tryd.prog 38 #[v] w fun e w' => e = .returned (.bool (t.all nameB)) ∧ Below w.heap.size w w' := by
  refine Tree.ind fun op name ts ih v w hv => ?_
  obtain ⟨a, cap, b, off, rfl, hop, hname, hlen, hcap, -, -⟩ := hv.form
  have HV := hidIt hv.forms
  have HR : Hid ((Tree.node op name ts).all nameB = (nameB (.node op name ts) && allL nameB ts)) := by show _ = _; simp [Tree.all]
  have HK : Hid (nameB (.node op name ts) = if op = 3 then vn name else name.size == 0) := rfl
  have HE := hidIt (isEmpty_size name)
  simp only [Tree.op_node, Tree.name_node, Tree.args_node] at *
  generalize nameB (.node op name ts) = kb at *
  have IH := hidIt ih
  unfold maxLen at hcap
  clear ih hv
  obtain ⟨O, hO⟩ : ∃ O : Obj, O = .cells #[.int .i64 op, .string name, .slice a ts.length cap] 24 := ⟨_, rfl⟩
  have hO := hidIt hO
  have hcs : op = 3 ∨ (op == 3) = false := by
    simp only [beq_eq_false_iff_ne]
    omega
  rcases hcs with rfl | e3
  all_goals
    go_enter Tryd.func38, Tryd.ntmps38
    go_wp2_with (go_at_call 57; refine (rValidName_any _ _ hname).mono ?_; rintro e w' ⟨rfl, rfl⟩)
    rw [← hO.out]
    have HB0 : Hid (Below w.heap.size w (w.alloc O)) := (Below.refl _ _).alloc (Nat.le_refl _) _
    have HX : Hid ((w.alloc O).heap[w.heap.size]? = some O) := heap_alloc_new w _
    generalize w.alloc O = W at *
    rw [hO.out] at HX
    go_loopw [3, 4] (fun ok i wr => ∃ k : Nat, k ≤ ts.length ∧ i = .int .i64 k ∧ ok = .bool (kb && allL nameB (ts.take k)) ∧ Hid (Below W.heap.size W wr)) (fun _ i _ => ts.length - (intOf i).toNat)
    case atStart => exact ⟨0, Nat.zero_le _, rfl, by rw [HK.out]; refine congrArg Value.bool ?_; first | (simp_all [allL]; done) | (simp_all [allL]; exact HE.out), Below.refl _ _⟩
    case round =>
      obtain ⟨k, hk, rfl, rfl, hbel⟩ := hrel
      have HBw := hidIt (HB0.out.trans (hbel.out.mono HB0.out.size))
      have kX := blk_kept HX.out hbel.out
      obtain ⟨x0, x1, x2⟩ := cell_of3 kX
      have hlx := lt_of_block kX
      clear kX
      by_cases hlt : k < ts.length
      · obtain ⟨b', off', a', c', rfl, c0, c1, c2, hf⟩ := (HV.out.go HBw.out).at k hlt
        have HF := hidIt hf
        have HS := hidIt (allL_take nameB ts k hlt)
        have hm : ts[k] ∈ ts := List.getElem_mem hlt
        clear hf
        generalize ts[k] = t at *
        have hlt0 : (k : Int) < (ts.length : Int) := by omega
        have hk0 : (0 : Int) ≤ (k : Int) := by omega
        generalize hz : (kb && allL nameB (ts.take k)) = z
        have HZ := hidIt hz
        clear hz
        cases z
        · go_wp2_with fail
          go_roundw
          case rel => exact ⟨k + 1, by omega, by go_num, by rw [HS.out, ← Bool.and_assoc, HZ.out]; rfl, hbel.out⟩
          case measure => simp [intOf]; omega
        · go_wp2_with fail
          refine (IH.out t hm _ _ HF.out).mono ?_
          rintro e w5 ⟨rfl, h5⟩
          have HB5 : Hid (Below W.heap.size W w5) := hbel.out.trans (Below.mono h5 hbel.out.size)
          clear h5
          go_wp2_with fail
          go_roundw
          case rel => exact ⟨k + 1, by omega, by go_num, by rw [HS.out, ← Bool.and_assoc, HZ.out]; rfl, HB5.out⟩
          case measure => simp [intOf]; omega
      · go_wp2_with fail
        go_ret
        exact ⟨ret_bool (by rw [HR.out, List.take_of_length_le (by omega)]), HBw.out⟩
end Go.Proofs.YtpiiadmjddikfaaDoor
