/- The reference's Size, Depth, kinds and names. The reference's reader: all of its functions by the size of the rest; Parse. The reference's Parse. The reference's Validate. The reference's strength, argument, joined, text and Format. The reference's Format. The reference's Same, at two formulas whatever. The call that chooses one of some strings (package keep). The chapter's examples about formulas, in whatever memory. The law FormulaParses: the call answers true for every text, every list of numbers, every place and every byte. What the rows' proofs share: a list of ints that came in, as the walks are told of it. The package's table of signs: what the row's condition gives the walks, and the world of the witness. -/
import Derived.BigRegion
import Derived.Lib.Strings
import Derived.ProofKit
import Derived.OpenShut
import Derived.ShutString
import Derived.ChangeOld
import Derived.Test.YtilkpjcbmllgmaaDoorCards
import Derived.Test.YtilkpjcbmllgmaaDoorTie
import Derived.Deep.DeepHandedRow
import Derived.Lib.LaidTab
import Derived.Test.YtilkpjcbmllgmaaDoorFpA
import Derived.Test.YtilkpjcbmllgmaaDoorFpB
import Derived.Test.YtilkpjcbmllgmaaDoorFpC

namespace Go.Proofs.YtilkpjcbmllgmaaDoor
set_option linter.unusedVariables false
set_option linter.unusedSimpArgs false
open Go.RowKit

set_option maxRecDepth 100000 in
set_option maxHeartbeats 1000000 in
theorem qsize_any : ∀ (t : Tree) (v : Value) (w : World), FormAt w none v t → t.nodes ≤ 1000000000 →
    Calls Tryd.prog 13 #[v] w fun e w' => e = .returned (.int .i64 t.nodes) ∧ Below w.heap.size w w' := by
  refine Tree.ind fun op name ts ih v w hv hn => ?_
  obtain ⟨a, cap, b, off, rfl, hop, hname, hlen, hcap, -, -⟩ := hv.form
  have HV := hidIt hv.forms
  simp only [Tree.op_node, Tree.name_node, Tree.args_node] at *
  have HN : Hid ((Tree.node op name ts).nodes = 1 + nodesL ts) := by show _ = _; simp [Tree.nodes]
  have hn' : 1 + nodesL ts ≤ 1000000000 := by rw [← HN.out]; exact hn
  have hlt : ts.length ≤ nodesL ts := nodes_len_le ts
  have IH := hidIt ih
  unfold maxLen at hcap
  clear ih hv hn
  go_enter Tryd.func13, Tryd.ntmps13
  go_wp2_with fail
  have hb0 : Below w.heap.size w (w.alloc (.cells #[.int .i64 op, .string name, .slice a ts.length cap] 24)) := (Below.refl _ _).alloc (Nat.le_refl _) _
  have HB0 := hidIt hb0
  have HX : Hid ((w.alloc (.cells #[.int .i64 op, .string name, .slice a ts.length cap] 24)).heap[w.heap.size]? = some (.cells #[.int .i64 op, .string name, .slice a ts.length cap] 24 (0, 0))) := heap_alloc_new w _
  clear hb0
  generalize (w.alloc (.cells #[.int .i64 op, .string name, .slice a ts.length cap] 24)) = W at *
  go_loopw [3, 4] (fun t i wr => ∃ k : Nat, k ≤ ts.length ∧ i = .int .i64 k ∧ t = .int .i64 (1 + nodesL (ts.take k) : Nat) ∧ Hid (Below W.heap.size W wr)) (fun _ i _ => ts.length - (intOf i).toNat)
  case atStart => exact ⟨0, Nat.zero_le _, rfl, by simp [nodesL], Below.refl _ _⟩
  case round =>
    obtain ⟨k, hk, rfl, rfl, hbel⟩ := hrel
    have HBw := hidIt (HB0.out.trans (hbel.out.mono HB0.out.size))
    have kX := blk_kept HX.out hbel.out
    obtain ⟨x0, x1, x2⟩ := cell_of3 kX
    have hlx := lt_of_block kX
    clear kX
    by_cases hlt : k < ts.length
    · obtain ⟨b', off', a', c', rfl, c0, c1, c2, hf⟩ := (HV.out.go HBw.out).at k hlt
      have HF := hidIt hf
      have hs := nodesL_take ts k hlt
      have hs2 := nodesL_take_le ts (k + 1)
      have HS := hidIt hs
      have hb1 : nodesL (ts.take k) ≤ 1000000000 := by omega
      have hb2 : nodesL (ts.take k) + (ts[k]).nodes ≤ 1000000000 := by omega
      have hm : ts[k] ∈ ts := List.getElem_mem hlt
      clear hf hs hs2
      generalize ts[k] = t at *
      have hlt0 : (k : Int) < (ts.length : Int) := by omega
      have hk0 : (0 : Int) ≤ (k : Int) := by omega
      have hb3 : t.nodes ≤ 1000000000 := by omega
      go_wp2_with fail
      refine (IH.out t hm _ _ HF.out hb3).mono ?_
      rintro e w5 ⟨rfl, h5⟩
      have HB5 : Hid (Below W.heap.size W w5) := hbel.out.trans (Below.mono h5 hbel.out.size)
      clear h5
      go_wp2_with fail
      go_roundw
      case rel => exact ⟨k + 1, by omega, by go_num, by rw [HS.out]; go_num, HB5.out⟩
      case measure => simp [intOf]; omega
    · go_wp2_with fail
      go_ret
      exact ⟨ret_int (by rw [HN.out, List.take_of_length_le (by omega)]), HBw.out⟩
set_option maxRecDepth 100000 in
set_option maxHeartbeats 1000000 in
theorem qdepth_any : ∀ (t : Tree) (v : Value) (w : World), FormAt w none v t → t.nodes ≤ 1000000000 →
    Calls Tryd.prog 15 #[v] w fun e w' => e = .returned (.int .i64 t.depth) ∧ Below w.heap.size w w' := by
  refine Tree.ind fun op name ts ih v w hv hn => ?_
  obtain ⟨a, cap, b, off, rfl, hop, hname, hlen, hcap, -, -⟩ := hv.form
  have HV := hidIt hv.forms
  simp only [Tree.op_node, Tree.name_node, Tree.args_node] at *
  have HN : Hid ((Tree.node op name ts).nodes = 1 + nodesL ts) := by show _ = _; simp [Tree.nodes]
  have HD : Hid ((Tree.node op name ts).depth = depthL ts) := by show _ = _; simp [Tree.depth]
  have hn' : 1 + nodesL ts ≤ 1000000000 := by rw [← HN.out]; exact hn
  have hlt : ts.length ≤ nodesL ts := nodes_len_le ts
  have IH := hidIt ih
  unfold maxLen at hcap
  clear ih hv hn
  go_enter Tryd.func15, Tryd.ntmps15
  go_wp2_with fail
  have hb0 : Below w.heap.size w (w.alloc (.cells #[.int .i64 op, .string name, .slice a ts.length cap] 24)) := (Below.refl _ _).alloc (Nat.le_refl _) _
  have HB0 := hidIt hb0
  have HX : Hid ((w.alloc (.cells #[.int .i64 op, .string name, .slice a ts.length cap] 24)).heap[w.heap.size]? = some (.cells #[.int .i64 op, .string name, .slice a ts.length cap] 24 (0, 0))) := heap_alloc_new w _
  clear hb0
  generalize (w.alloc (.cells #[.int .i64 op, .string name, .slice a ts.length cap] 24)) = W at *
  go_loopw [3, 4] (fun t i wr => ∃ k : Nat, k ≤ ts.length ∧ i = .int .i64 k ∧ t = .int .i64 (depthL (ts.take k) : Nat) ∧ Hid (Below W.heap.size W wr)) (fun _ i _ => ts.length - (intOf i).toNat)
  case atStart => exact ⟨0, Nat.zero_le _, rfl, by simp [depthL], Below.refl _ _⟩
  case round =>
    obtain ⟨k, hk, rfl, rfl, hbel⟩ := hrel
    have HBw := hidIt (HB0.out.trans (hbel.out.mono HB0.out.size))
    have kX := blk_kept HX.out hbel.out
    obtain ⟨x0, x1, x2⟩ := cell_of3 kX
    have hlx := lt_of_block kX
    clear kX
    by_cases hlt : k < ts.length
    · obtain ⟨b', off', a', c', rfl, c0, c1, c2, hf⟩ := (HV.out.go HBw.out).at k hlt
      have HF := hidIt hf
      have hs := nodesL_take ts k hlt
      have hs2 := nodesL_take_le ts (k + 1)
      have HS := hidIt (depthL_take ts k hlt)
      have hd1 : depthL (ts.take k) ≤ 1000000000 := by
        have h1 := depthL_take_le ts k
        have h2 := depth_lt_nodes (Tree.node op name ts)
        rw [HN.out, HD.out] at h2
        omega
      have hd2 : (ts[k]).depth < (ts[k]).nodes := depth_lt_nodes _
      have hb1 : nodesL (ts.take k) ≤ 1000000000 := by omega
      have hb2 : nodesL (ts.take k) + (ts[k]).nodes ≤ 1000000000 := by omega
      have hm : ts[k] ∈ ts := List.getElem_mem hlt
      clear hf hs hs2
      generalize ts[k] = t at *
      have hlt0 : (k : Int) < (ts.length : Int) := by omega
      have hk0 : (0 : Int) ≤ (k : Int) := by omega
      have hb3 : t.nodes ≤ 1000000000 := by omega
      go_wp2_with fail
      refine (IH.out t hm _ _ HF.out hb3).mono ?_
      rintro e w5 ⟨rfl, h5⟩
      have HB5 : Hid (Below W.heap.size W w5) := hbel.out.trans (Below.mono h5 hbel.out.size)
      clear h5
      go_wp2_with fail
      go_roundw
      case rel => exact ⟨k + 1, by omega, by go_num, by rw [HS.out]; go_num, HB5.out⟩
      case measure => simp [intOf]; omega
    · go_wp2_with fail
      go_ret
      exact ⟨ret_int (by rw [HD.out, List.take_of_length_le (by omega)]), HBw.out⟩

set_option maxRecDepth 100000 in
set_option maxHeartbeats 1000000 in
theorem qkinds_any : ∀ (t : Tree) (v : Value) (w : World), FormAt w none v t →
    Calls Tryd.prog 37 #[v] w fun e w' => e = .returned (.bool (t.all kindB)) ∧ Below w.heap.size w w' := by
  refine Tree.ind fun op name ts ih v w hv => ?_
  obtain ⟨a, cap, b, off, rfl, hop, hname, hlen, hcap, -, -⟩ := hv.form
  have HV := hidIt hv.forms
  have HR : Hid ((Tree.node op name ts).all kindB = (kindB (.node op name ts) && allL kindB ts)) := by show _ = _; simp [Tree.all]
  have HK : Hid (kindB (.node op name ts) = if op = 1 ∨ op = 2 ∨ op = 3 then ts.length == 0
    else if op = 4 then ts.length == 1
    else if op = 5 ∨ op = 6 then decide (2 ≤ ts.length ∧ ts.length ≤ 6)
    else if op = 7 ∨ op = 8 then ts.length == 2
    else false) := rfl
  simp only [Tree.op_node, Tree.name_node, Tree.args_node] at *
  generalize kindB (.node op name ts) = kb at *
  have IH := hidIt ih
  unfold maxLen at hcap
  clear ih hv
  have hnn : (0 : Int) ≤ ts.length := by omega
  obtain ⟨O, hO⟩ : ∃ O : Obj, O = .cells #[.int .i64 op, .string name, .slice a ts.length cap] 24 := ⟨_, rfl⟩
  have hO := hidIt hO
  have hcs : op = 1 ∨ op = 2 ∨ op = 3 ∨ op = 4 ∨ ((op = 5 ∨ op = 6) ∧ (2 : Int) ≤ ts.length) ∨ ((op = 5 ∨ op = 6) ∧ (ts.length : Int) < 2) ∨ op = 7 ∨ op = 8 ∨
      ((op == 1) = false ∧ (op == 2) = false ∧ (op == 3) = false ∧ (op == 4) = false ∧ (op == 5) = false ∧ (op == 6) = false ∧ (op == 7) = false ∧ (op == 8) = false) := by
    simp only [beq_eq_false_iff_ne]
    omega
  rcases hcs with rfl | rfl | rfl | rfl | ⟨rfl | rfl, hn2⟩ | ⟨rfl | rfl, hn2⟩ | rfl | rfl | ⟨e1, e2, e3, e4, e5, e6, e7, e8⟩
  all_goals
    go_enter Tryd.func37, Tryd.ntmps37
    go_wp2_with fail
  all_goals
    rw [← hO.out]
    have HB0 : Hid (Below w.heap.size w (w.alloc O)) := (Below.refl _ _).alloc (Nat.le_refl _) _
    have HX : Hid ((w.alloc O).heap[w.heap.size]? = some O) := heap_alloc_new w _
    generalize w.alloc O = W at *
    rw [hO.out] at HX
    go_loopw [4, 5] (fun ok i wr => ∃ k : Nat, k ≤ ts.length ∧ i = .int .i64 k ∧ ok = .bool (kb && allL kindB (ts.take k)) ∧ Hid (Below W.heap.size W wr)) (fun _ i _ => ts.length - (intOf i).toNat)
    case atStart => exact ⟨0, Nat.zero_le _, rfl, by rw [HK.out]; refine congrArg Value.bool ?_; first | (simp [allL]; done) | (rw [Bool.eq_iff_iff]; simp [allL]; omega) | ((try simp only [beq_eq_false_iff_ne] at *); first | (rw [Bool.eq_iff_iff]; simp_all [allL]; done) | (simp_all [allL]; done) | (trace_state; fail)), Below.refl _ _⟩
    case round =>
      obtain ⟨k, hk, rfl, rfl, hbel⟩ := hrel
      have HBw := hidIt (HB0.out.trans (hbel.out.mono HB0.out.size))
      have kX := blk_kept HX.out hbel.out
      obtain ⟨x0, x1, x2⟩ := cell_of3 kX
      have hlx := lt_of_block kX
      clear kX
      by_cases hlt : k < ts.length
      · obtain ⟨b', off', a', c', rfl, c0, c1, c2, hf⟩ := (HV.out.go HBw.out).at k hlt
        have HF := hidIt hf
        have HS := hidIt (allL_take kindB ts k hlt)
        have hm : ts[k] ∈ ts := List.getElem_mem hlt
        clear hf
        generalize ts[k] = t at *
        have hlt0 : (k : Int) < (ts.length : Int) := by omega
        have hk0 : (0 : Int) ≤ (k : Int) := by omega
        generalize hz : (kb && allL kindB (ts.take k)) = z
        have HZ := hidIt hz
        clear hz
        cases z
        · go_wp2_with fail
          go_roundw
          case rel => exact ⟨k + 1, by omega, by go_num, by rw [HS.out, ← Bool.and_assoc, HZ.out]; rfl, hbel.out⟩
          case measure => simp [intOf]; omega
        · go_wp2_with fail
          refine (IH.out t hm _ _ HF.out).mono ?_
          rintro e w5 ⟨rfl, h5⟩
          have HB5 : Hid (Below W.heap.size W w5) := hbel.out.trans (Below.mono h5 hbel.out.size)
          clear h5
          go_wp2_with fail
          go_roundw
          case rel => exact ⟨k + 1, by omega, by go_num, by rw [HS.out, ← Bool.and_assoc, HZ.out]; rfl, HB5.out⟩
          case measure => simp [intOf]; omega
      · go_wp2_with fail
        go_ret
        exact ⟨ret_bool (by rw [HR.out, List.take_of_length_le (by omega)]), HBw.out⟩

set_option maxRecDepth 100000 in
set_option maxHeartbeats 1000000 in
theorem qnames_any : ∀ (t : Tree) (v : Value) (w : World), FormAt w none v t →
    Calls Tryd.prog 38 #[v] w fun e w' => e = .returned (.bool (t.all nameB)) ∧ Below w.heap.size w w' := by
  refine Tree.ind fun op name ts ih v w hv => ?_
  obtain ⟨a, cap, b, off, rfl, hop, hname, hlen, hcap, -, -⟩ := hv.form
  have HV := hidIt hv.forms
  have HR : Hid ((Tree.node op name ts).all nameB = (nameB (.node op name ts) && allL nameB ts)) := by show _ = _; simp [Tree.all]
  have HK : Hid (nameB (.node op name ts) = if op = 3 then vn name else name.size == 0) := rfl
  have HE := hidIt (isEmpty_size name)
  simp only [Tree.op_node, Tree.name_node, Tree.args_node] at *
  generalize nameB (.node op name ts) = kb at *
  have IH := hidIt ih
  unfold maxLen at hcap
  clear ih hv
  obtain ⟨O, hO⟩ : ∃ O : Obj, O = .cells #[.int .i64 op, .string name, .slice a ts.length cap] 24 := ⟨_, rfl⟩
  have hO := hidIt hO
  have hcs : op = 3 ∨ (op == 3) = false := by
    simp only [beq_eq_false_iff_ne]
    omega
  rcases hcs with rfl | e3
  all_goals
    go_enter Tryd.func38, Tryd.ntmps38
    go_wp2_with (go_at_call 57; refine (rValidName_any _ _ hname).mono ?_; rintro e w' ⟨rfl, rfl⟩)
    rw [← hO.out]
    have HB0 : Hid (Below w.heap.size w (w.alloc O)) := (Below.refl _ _).alloc (Nat.le_refl _) _
    have HX : Hid ((w.alloc O).heap[w.heap.size]? = some O) := heap_alloc_new w _
    generalize w.alloc O = W at *
    rw [hO.out] at HX
    go_loopw [3, 4] (fun ok i wr => ∃ k : Nat, k ≤ ts.length ∧ i = .int .i64 k ∧ ok = .bool (kb && allL nameB (ts.take k)) ∧ Hid (Below W.heap.size W wr)) (fun _ i _ => ts.length - (intOf i).toNat)
    case atStart => exact ⟨0, Nat.zero_le _, rfl, by rw [HK.out]; refine congrArg Value.bool ?_; first | (simp_all [allL]; done) | (simp_all [allL]; exact HE.out), Below.refl _ _⟩
    case round =>
      obtain ⟨k, hk, rfl, rfl, hbel⟩ := hrel
      have HBw := hidIt (HB0.out.trans (hbel.out.mono HB0.out.size))
      have kX := blk_kept HX.out hbel.out
      obtain ⟨x0, x1, x2⟩ := cell_of3 kX
      have hlx := lt_of_block kX
      clear kX
      by_cases hlt : k < ts.length
      · obtain ⟨b', off', a', c', rfl, c0, c1, c2, hf⟩ := (HV.out.go HBw.out).at k hlt
        have HF := hidIt hf
        have HS := hidIt (allL_take nameB ts k hlt)
        have hm : ts[k] ∈ ts := List.getElem_mem hlt
        clear hf
        generalize ts[k] = t at *
        have hlt0 : (k : Int) < (ts.length : Int) := by omega
        have hk0 : (0 : Int) ≤ (k : Int) := by omega
        generalize hz : (kb && allL nameB (ts.take k)) = z
        have HZ := hidIt hz
        clear hz
        cases z
        · go_wp2_with fail
          go_roundw
          case rel => exact ⟨k + 1, by omega, by go_num, by rw [HS.out, ← Bool.and_assoc, HZ.out]; rfl, hbel.out⟩
          case measure => simp [intOf]; omega
        · go_wp2_with fail
          refine (IH.out t hm _ _ HF.out).mono ?_
          rintro e w5 ⟨rfl, h5⟩
          have HB5 : Hid (Below W.heap.size W w5) := hbel.out.trans (Below.mono h5 hbel.out.size)
          clear h5
          go_wp2_with fail
          go_roundw
          case rel => exact ⟨k + 1, by omega, by go_num, by rw [HS.out, ← Bool.and_assoc, HZ.out]; rfl, HB5.out⟩
          case measure => simp [intOf]; omega
      · go_wp2_with fail
        go_ret
        exact ⟨ret_bool (by rw [HR.out, List.take_of_length_le (by omega)]), HBw.out⟩
end Go.Proofs.YtilkpjcbmllgmaaDoor

namespace Go.Proofs.YtilkpjcbmllgmaaDoor
set_option linter.unusedVariables false
set_option linter.unusedSimpArgs false
open Go Go.RowKit

/-- All methods, where so many calls are enough. -/
structure AllR (n : Nat) : Prop where
  eqv : ∀ r : Rest, 8 * r.length + 7 ≤ n → ROk 42 (pF n 0) r
  imp : ∀ r : Rest, 8 * r.length + 6 ≤ n → ROk 61 (pF n 1) r
  dis : ∀ r : Rest, 8 * r.length + 5 ≤ n → ROk 78 (pF n 2) r
  con : ∀ r : Rest, 8 * r.length + 4 ≤ n → ROk 89 (pF n 3) r
  neg : ∀ r : Rest, 8 * r.length + 3 ≤ n → ROk 104 (pF n 4) r

theorem all_r (n : Nat) : AllR n := by
  induction n using Nat.strongRecOn with
  | _ n ih =>
  cases n with
  | zero => exact ⟨fun r h => by omega, fun r h => by omega, fun r h => by omega, fun r h => by omega, fun r h => by omega⟩
  | succ n =>
    have ih1 := ih n (by omega)
    refine ⟨fun r h => qiff_walk n r (ih1.imp r (by omega)) (fun r' h' => ih1.imp r' (by omega)), fun r h => qimpl_walk n r (ih1.dis r (by omega)) (fun r' h' => ih1.imp r' (by omega)),
      fun r h => qor_walk n r (ih1.con r (by omega)) (fun r' h' => ih1.con r' (by omega)), fun r h => qand_walk n r (ih1.neg r (by omega)) (fun r' h' => ih1.neg r' (by omega)), fun r h => ?_⟩
    obtain ⟨k, rfl⟩ : ∃ k, n = k + 2 := ⟨n - 2, by omega⟩
    exact qunary_walk k r (fun r' h' => ih1.neg r' (by omega)) (fun ht => (ih k (by omega)).eqv (nxt r) (by have := nxt_lt (l := r) (sign := [40]) (by decide) ht; omega))

/-- What is read has names where it should, and no more nodes than bytes. -/
def GoodP (P : Rest → Option Tree × Rest) : Prop := ∀ r f r2, P r = (some f, r2) → f.all nameB = true ∧ f.nodes + r2.length ≤ r.length

theorem nameB_node {op : Int} (h : op ≠ 3) (ts : List Tree) : nameB (.node op ⟨#[]⟩ ts) = true := by
  unfold nameB
  rw [if_neg (show ¬ (Tree.node op ⟨#[]⟩ ts).op = 3 from h)]
  rfl
theorem all_node {op : Int} (h : op ≠ 3) {ts : List Tree} (ht : allL nameB ts = true) : (Tree.node op ⟨#[]⟩ ts).all nameB = true := by
  rw [Tree.all, nameB_node h, ht]; rfl

theorem pairP_good {op : Int} (hop : op ≠ 3) {sign : Rest} (h0 : 0 < sign.length) {L R : Rest → Option Tree × Rest} (hL : GoodP L) (hR : GoodP R) : GoodP (pairP op sign L R) := by
  intro r f r2 h
  cases hl : L r with
  | mk o r1 =>
  cases o with
  | none => rw [pairP_none hl] at h; cases h
  | some g =>
    obtain ⟨a1, a2⟩ := hL r g r1 hl
    by_cases ht : tok r1 = sign
    · rw [pairP_both hl ht] at h
      cases hr : R (nxt r1) with
      | mk o2 r3 =>
      rw [hr] at h
      cases o2 with
      | none => cases h
      | some g2 =>
        obtain ⟨b1, b2⟩ := hR _ g2 r3 hr
        have hn := nxt_lt h0 ht
        simp only [bothP, Prod.mk.injEq, Option.some.injEq] at h
        obtain ⟨rfl, rfl⟩ := h
        refine ⟨all_node hop (by simp [allL, a1, b1]), ?_⟩
        simp only [Tree.nodes, nodesL]
        omega
    · rw [pairP_left hl ht] at h
      simp only [Prod.mk.injEq, Option.some.injEq] at h
      obtain ⟨rfl, rfl⟩ := h
      exact ⟨a1, a2⟩

theorem rowLoop_good {sign : Rest} (h0 : 0 < sign.length) {P : Rest → Option Tree × Rest} (hP : GoodP P) : ∀ (n : Nat) (l : List Tree) (r : Rest) (l' : List Tree) (r2 : Rest), allL nameB l = true → rowLoop sign P n l r = (some l', r2) →
    allL nameB l' = true ∧ nodesL l' + r2.length + (l'.length - l.length) ≤ nodesL l + r.length ∧ l.length ≤ l'.length ∧ (tok r = sign → l.length < l'.length)
  | 0, l, r, l', r2, _, h => by cases h
  | n + 1, l, r, l', r2, hl, h => by
    by_cases ht : tok r = sign
    · cases hp : P (nxt r) with
      | mk o r1 =>
      cases o with
      | none => rw [rowLoop_fail ht hp] at h; cases h
      | some f =>
        rw [rowLoop_on ht hp] at h
        obtain ⟨b1, b2⟩ := hP _ f r1 hp
        have hn := nxt_lt h0 ht
        obtain ⟨c1, c2, c3, -⟩ := rowLoop_good h0 hP n (l ++ [f]) r1 l' r2 (by rw [allL_append, hl]; simp [allL, b1]) h
        rw [nodesL_append, List.length_append] at c2
        rw [List.length_append] at c3
        simp only [nodesL, List.length_singleton] at c2 c3
        exact ⟨c1, by omega, by omega, fun _ => by omega⟩
    · rw [rowLoop_stop ht] at h
      simp only [Prod.mk.injEq, Option.some.injEq] at h
      obtain ⟨rfl, rfl⟩ := h
      exact ⟨hl, by omega, by omega, fun h => absurd h ht⟩

theorem rowP_good {op : Int} (hop : op ≠ 3) {sign : Rest} (h0 : 0 < sign.length) {P : Rest → Option Tree × Rest} (hP : GoodP P) : GoodP (rowP op sign P) := by
  intro r f r2 h
  cases hl : P r with
  | mk o r1 =>
  cases o with
  | none => rw [rowP_none hl] at h; cases h
  | some g =>
    obtain ⟨a1, a2⟩ := hP r g r1 hl
    by_cases ht : tok r1 = sign
    · rw [rowP_many hl ht] at h
      cases hr : rowLoop sign P (r1.length + 1) [g] r1 with
      | mk o2 r3 =>
      rw [hr] at h
      cases o2 with
      | none => cases h
      | some l =>
        obtain ⟨c1, c2, c3, c4⟩ := rowLoop_good h0 hP _ _ _ _ _ (by simp [allL, a1]) hr
        have c5 := c4 ht
        simp only [manyP, Prod.mk.injEq, Option.some.injEq] at h
        obtain ⟨rfl, rfl⟩ := h
        simp only [nodesL, List.length_singleton] at c2 c5
        refine ⟨all_node hop c1, ?_⟩
        simp only [Tree.nodes]
        omega
    · rw [rowP_left hl ht] at h
      simp only [Prod.mk.injEq, Option.some.injEq] at h
      obtain ⟨rfl, rfl⟩ := h
      exact ⟨a1, a2⟩

theorem pF_good : ∀ (n k : Nat), GoodP (pF n k) := by
  intro n
  induction n with
  | zero => intro k r f r2 h; cases h
  | succ n ih =>
    intro k
    match k with
    | 0 => exact pairP_good (by decide) (by decide) (ih 1) (ih 1)
    | 1 => exact pairP_good (by decide) (by decide) (ih 2) (ih 1)
    | 2 => exact rowP_good (by decide) (by decide) (ih 3)
    | 3 => exact rowP_good (by decide) (by decide) (ih 4)
    | 4 =>
      intro r f r2 h
      rw [pF4] at h
      split at h
      · rename_i ht
        cases hr : pF n 4 (nxt r) with
        | mk o r3 =>
        rw [hr] at h
        cases o with
        | none => cases h
        | some g =>
          obtain ⟨b1, b2⟩ := ih 4 _ g r3 hr
          have hn := nxt_lt (l := r) (by decide) ht
          simp only [notP, Prod.mk.injEq, Option.some.injEq] at h
          obtain ⟨rfl, rfl⟩ := h
          refine ⟨all_node (by decide) (by simp [allL, b1]), ?_⟩
          simp only [Tree.nodes, nodesL]
          omega
      · exact ih 5 r f r2 h
    | 5 =>
      intro r f r2 h
      have h3 := nxt_len r
      rw [pF5] at h
      split at h
      · exact ih 6 r f r2 h
      split at h
      · rename_i ht
        rw [ht] at h3
        simp only [Prod.mk.injEq, Option.some.injEq] at h
        obtain ⟨rfl, rfl⟩ := h
        refine ⟨all_node (by decide) rfl, ?_⟩
        simp only [Tree.nodes, nodesL]
        simp at h3
        omega
      split at h
      · rename_i ht
        rw [ht] at h3
        simp only [Prod.mk.injEq, Option.some.injEq] at h
        obtain ⟨rfl, rfl⟩ := h
        refine ⟨all_node (by decide) rfl, ?_⟩
        simp only [Tree.nodes, nodesL]
        simp at h3
        omega
      split at h
      · rename_i hv
        simp only [Prod.mk.injEq, Option.some.injEq] at h
        obtain ⟨rfl, rfl⟩ := h
        have hpos : 0 < (tok r).length := by
          obtain ⟨c, t, e, -⟩ := vn_head hv
          have e' : tok r = c :: t := e
          rw [e']
          simp
        refine ⟨?_, ?_⟩
        · rw [Tree.all]
          unfold nameB
          rw [if_pos (show (Tree.node 3 ⟨(tok r).toArray⟩ []).op = 3 from rfl)]
          show (vn ⟨(tok r).toArray⟩ && allL _ []) = true
          rw [hv]
          rfl
        · simp only [Tree.nodes, nodesL]
          omega
      · cases h
    | k + 6 =>
      intro r f r2 h
      rw [pF6] at h
      have h3 := nxt_len r
      cases hr : pF n 0 (nxt r) with
      | mk o r3 =>
      rw [hr] at h
      cases o with
      | none => cases h
      | some g =>
        obtain ⟨b1, b2⟩ := ih 0 _ g r3 hr
        have h4 := nxt_len r3
        simp only [closeP] at h
        split at h
        · simp only [Prod.mk.injEq, Option.some.injEq] at h
          obtain ⟨rfl, rfl⟩ := h
          exact ⟨b1, by omega⟩
        · cases h

/-- What Validate says of what was read. -/
theorem valE_read {t : Tree} (h : t.all nameB = true) : (valE t = 0) ↔ (t.nodes ≤ 600 ∧ t.depth ≤ 20 ∧ t.all kindB = true) := by
  constructor
  · intro hv
    obtain ⟨h1, h2, h3, -⟩ := valE_zero hv
    exact ⟨h1, h2, h3⟩
  · rintro ⟨h1, h2, h3⟩
    unfold valE
    have : fitsAt 0 0 t = true := by simp [fitsAt]; omega
    simp [this, h, h3]
end Go.Proofs.YtilkpjcbmllgmaaDoor

namespace Go.Proofs.YtilkpjcbmllgmaaDoor
set_option linter.unusedVariables false
set_option linter.unusedSimpArgs false
open Go Go.RowKit

set_option maxRecDepth 100000 in
set_option maxHeartbeats 1000000 in
theorem qfailB_any (b : Nat) (s : ByteArray) (x : Nat) (w : World) (h : RBad w b s x) :
    Calls Tryd.prog 44 #[.pointer (some ⟨b, 0, none⟩)] w fun e w' => e = .returned (.agg #[.int .i64 0, .string ⟨#[]⟩, .slice none 0 0]) ∧ RBad w' b s x ∧ Below w.heap.size w w' := by
  obtain ⟨p, hp, hbox⟩ := h.ex
  have hs4 := h.hs
  have hlt := hbox.lt
  have HB : Hid (QBox (w.alloc (.cells #[.int .i64 0, .string ⟨#[]⟩, .slice none 0 0] 24)) b s p (x : Int)) := hbox.go (Grows.alloc _ _)
  have HK := hidIt (heap_alloc_new w (.cells #[.int .i64 0, .string ⟨#[]⟩, .slice none 0 0] 24))
  have HR := hidIt (h.go (Grows.alloc w (.cells #[.int .i64 0, .string ⟨#[]⟩, .slice none 0 0] 24)))
  have HG : Hid (Below w.heap.size w (w.alloc (.cells #[.int .i64 0, .string ⟨#[]⟩, .slice none 0 0] 24))) := Grows.alloc _ _
  have hx0 : (0 : Int) ≤ (x : Int) := by omega
  have hpb : w.heap.size ≠ b := by omega
  clear hbox h
  obtain ⟨c0, c1, c2⟩ := HB.out.cells
  have hlt0 := HB.out.lt
  obtain ⟨r0, r1, r2⟩ := cell_of3 HK.out
  obtain ⟨g0, g1, g2⟩ := cells_free HK.out
  have hlr := lt_of_block HK.out
  go_enter Tryd.func44, Tryd.ntmps44
  go_wp2_with fail
  refine bodyPost_ret (v := .agg #[.int .i64 0, .string ⟨#[]⟩, .slice none 0 0]) (by simp [results, Tryd.results44, go_sem, r0, r1, r2, hlr]) rfl ?_
  refine ⟨rfl, ?_, ?_⟩
  · have h3 := set_three (w.alloc (.cells #[.int .i64 0, .string ⟨#[]⟩, .slice none 0 0] 24)) w.heap.size (.int .i64 0) (.string ⟨#[]⟩) (.slice none 0 0)
    first
      | exact HR.out
      | exact HR.out.kept h3 (fun e => by injection e with e; omega)
  · have h3 := set_three (w.alloc (.cells #[.int .i64 0, .string ⟨#[]⟩, .slice none 0 0] 24)) w.heap.size (.int .i64 0) (.string ⟨#[]⟩) (.slice none 0 0)
    first
      | exact HG.out
      | exact below_rw HG.out h3 (Nat.le_refl _)

theorem below_rw {w w1 w2 : World} {b : Nat} (h : Below w.heap.size w w1) (hg : w1.grownBy w2 (some b)) (hb : w.heap.size ≤ b) : Below w.heap.size w w2 :=
  ⟨hg.os.trans h.os, hg.tape.trans h.tape, hg.output.trans h.output, Nat.le_trans h.size hg.size, fun i hi => (hg.block i (Nat.lt_of_lt_of_le hi h.size) (fun e => by injection e with e; omega)).trans (h.block i hi)⟩
theorem readT_len (s : ByteArray) : (skipS s.data.toList).length ≤ s.size := by
  have := skipS_len s.data.toList
  rw [size_data] at this
  exact this

set_option maxRecDepth 100000 in
set_option maxHeartbeats 4000000 in
theorem qparse_any (s : ByteArray) (hs : s.size ≤ maxLen) (w : World) : Calls Tryd.prog 23 #[.string s] w (ParsePost w s) := by
  unfold maxLen at hs
  have HK0 := hidIt (heap_alloc_new w (.cells #[.int .i64 0, .string ⟨#[]⟩, .slice none 0 0] 24))
  by_cases hlong : 4096 < s.size
  case pos =>
    have HE : Hid (parseT s = (zeroT, 0, 2)) := by show _ = _; unfold parseT; rw [if_pos hlong]
    have hl : (4096 : Int) < (s.size : Int) := by omega
    clear hlong
    obtain ⟨r0, r1, r2⟩ := cell_of3 HK0.out
    obtain ⟨g0, g1, g2⟩ := cells_free HK0.out
    have hlr := lt_of_block HK0.out
    go_enter Tryd.func23, Tryd.ntmps23
    go_wp2_with fail
    refine bodyPost_ret (v := .tuple #[.agg #[.int .i64 0, .string ⟨#[]⟩, .slice none 0 0], .int .i64 0, .int .i64 2]) (by simp [results, Tryd.results23, go_sem, r0, r1, r2, hlr]) rfl ?_
    exact ⟨0, _, none, 0, 0, by rw [HE.out]; rfl, by rw [HE.out]; exact zero_form _ _, Grows.alloc _ _⟩
  case neg =>
  have hl : ¬ (4096 : Int) < (s.size : Int) := by omega
  have hs4 : s.size ≤ 4096 := by omega
  have HE : Hid (parseT s = judge s.size (readT s)) := by show _ = _; unfold parseT; rw [if_neg hlong]
  have HW0 : Hid (Below w.heap.size w ((w.alloc (.cells #[.int .i64 0, .string ⟨#[]⟩, .slice none 0 0] 24)).alloc (.cells #[.string s, .int .i64 0, .int .i64 (-1)] 64))) := (Grows.alloc _ _).trans (Below.mono (Grows.alloc _ _) (by simp))
  have HA0 : Hid (RAt ((w.alloc (.cells #[.int .i64 0, .string ⟨#[]⟩, .slice none 0 0] 24)).alloc (.cells #[.string s, .int .i64 0, .int .i64 (-1)] 64)) (w.heap.size + 1) s (skipS s.data.toList)) := ⟨⟨0, Nat.zero_le _, rfl, heap_alloc_at (by simp)⟩, hs4⟩
  have HK1 : Hid (((w.alloc (.cells #[.int .i64 0, .string ⟨#[]⟩, .slice none 0 0] 24)).alloc (.cells #[.string s, .int .i64 0, .int .i64 (-1)] 64)).heap[w.heap.size]? = some (.cells #[.int .i64 0, .string ⟨#[]⟩, .slice none 0 0] 24 (0, 0))) := blk_kept HK0.out (Grows.alloc _ _)
  have HI := hidIt ((all_r (8 * (skipS s.data.toList).length + 7)).eqv (skipS s.data.toList) (Nat.le_refl _))
  clear hlong HK0
  go_enter Tryd.func23, Tryd.ntmps23
  go_wp2_with fail
  have hw0 : ((w.alloc (.cells #[.int .i64 0, .string ⟨#[]⟩, .slice none 0 0] 24)).alloc (.cells #[.string s, .int .i64 0, .int .i64 (-1)] 64)).heap.size = w.heap.size + 2 := by simp
  generalize ((w.alloc (.cells #[.int .i64 0, .string ⟨#[]⟩, .slice none 0 0] 24)).alloc (.cells #[.string s, .int .i64 0, .int .i64 (-1)] 64)) = w0 at *
  refine (HI.out w0 (w.heap.size + 1) s HA0.out).mono ?_
  rintro e w1 ⟨t, o1, n1, a1, k1, c1, rfl, hf1, hg1, hst1⟩
  have hst1' : RSt w1 (w.heap.size + 1) s t (readT s) := hst1
  have hb0 : Below w.heap.size w w1 := below_rw (b := w.heap.size + 1) HW0.out hg1 (by omega)
  have hRb : w.heap.size ≠ w.heap.size + 1 := by omega
  have hgb := Grows.alloc w1 (.cells #[.int .i64 o1, .string n1, .slice a1 k1 c1] 24)
  have HST := hidIt (hst1'.kept (only_of_below hgb none) (by simp))
  have HF := hidIt (FormIn.go (hf1.mono (S' := fun i => w.heap.size + 1 ≤ i) fun i _ hi => by omega) hgb)
  have HB := hidIt (hb0.trans (Below.mono hgb hb0.size))
  have HK := hidIt (blk_kept (own_kept HK1.out hg1 hRb) hgb)
  have HP := hidIt (heap_alloc_new w1 (.cells #[.int .i64 o1, .string n1, .slice a1 k1 c1] 24))
  have hPb : w1.heap.size ≠ w.heap.size + 1 := by have := hg1.size; omega
  have hPR : w1.heap.size ≠ w.heap.size := by have := hg1.size; omega
  clear hf1 hg1 hst1 hst1' hgb hb0 HI HW0 HA0 HK1
  go_wp2_with fail
  generalize hWa : (w1.alloc (.cells #[.int .i64 o1, .string n1, .slice a1 k1 c1] 24)) = W at *
  clear hWa
  generalize w1.heap.size = P at *
  have HLEN := hidIt (readT_len s)
  cases hrd : readT s with
  | mk ores r1 =>
  rw [hrd] at HST HE
  have HRD := hidIt hrd
  clear hrd
  cases ores with
  | none =>
    have HBAD := hidIt (HST.out.no rfl)
    have HEE : Hid (parseT s = (zeroT, s.size - r1.length, 3)) := HE.out
    obtain ⟨p, hp, hbox⟩ := HBAD.out.ex
    refine (qtoken_any s (by omega) p hp _ _ W hbox).mono ?_
    rintro e w3 ⟨i, rfl, hi, hdi, hb3⟩
    have HBAD3 := hidIt (HBAD.out.go hb3)
    have HB3 := hidIt (HB.out.trans (Below.mono hb3 HB.out.size))
    have HK3 := hidIt (blk_kept HK.out hb3)
    clear hb3 hdi hbox HBAD HB HK HST HF
    obtain ⟨X, hX⟩ : ∃ X : ByteArray, X = ⟨(rtk (s.data.toList.drop i)).toArray⟩ := ⟨_, rfl⟩
    rw [← hX]
    clear hX
    cases hq : (X.toList == [])
    · go_wp2_with fail
      refine (qfailB_any _ s _ w3 HBAD3.out).mono ?_
      rintro e w4 ⟨rfl, hbad4, hb4⟩
      have HBAD4 := hidIt hbad4
      have HB4 := hidIt (HB3.out.trans (Below.mono hb4 HB3.out.size))
      have HK4 := hidIt (blk_kept HK3.out hb4)
      clear hbad4 hb4
      obtain ⟨p4, hp4, hbox4⟩ := HBAD4.out.ex
      obtain ⟨d0, d1, d2⟩ := hbox4.cells
      have hlb4 := hbox4.lt
      obtain ⟨s0, s1, s2⟩ := cell_of3 HK4.out
      obtain ⟨y0, y1, y2⟩ := cells_free HK4.out
      have hls := lt_of_block HK4.out
      have hx0 : (0 : Int) ≤ ((s.size - r1.length : Nat) : Int) := by omega
      go_wp2_with fail
      go_big_region
      go_wp2_with fail
      refine bodyPost_ret (v := .tuple #[.agg #[.int .i64 0, .string ⟨#[]⟩, .slice none 0 0], .int .i64 ((s.size - r1.length : Nat) : Int), .int .i64 3]) (by simp [results, Tryd.results23, go_sem, s0, s1, s2, hls]) rfl ?_
      exact ⟨0, ⟨#[]⟩, none, 0, 0, by rw [HEE.out], by rw [HEE.out]; exact zero_form _ _, below_rw HB4.out (only_drewN (set_three w4 w.heap.size _ _ _) 1) (Nat.le_refl _)⟩
    · have HBAD4 := HBAD3
      have HB4 := HB3
      have HK4 := HK3
      obtain ⟨p4, hp4, hbox4⟩ := HBAD4.out.ex
      obtain ⟨d0, d1, d2⟩ := hbox4.cells
      have hlb4 := hbox4.lt
      obtain ⟨s0, s1, s2⟩ := cell_of3 HK4.out
      obtain ⟨y0, y1, y2⟩ := cells_free HK4.out
      have hls := lt_of_block HK4.out
      have hx0 : (0 : Int) ≤ ((s.size - r1.length : Nat) : Int) := by omega
      go_wp2_with fail
      go_big_region
      go_wp2_with fail
      refine bodyPost_ret (v := .tuple #[.agg #[.int .i64 0, .string ⟨#[]⟩, .slice none 0 0], .int .i64 ((s.size - r1.length : Nat) : Int), .int .i64 3]) (by simp [results, Tryd.results23, go_sem, s0, s1, s2, hls]) rfl ?_
      exact ⟨0, ⟨#[]⟩, none, 0, 0, by rw [HEE.out], by rw [HEE.out]; exact zero_form _ _, below_rw HB4.out (only_drewN (set_three w3 w.heap.size _ _ _) 1) (Nat.le_refl _)⟩
  | some f =>
    obtain ⟨rfl, hat⟩ := HST.out.yes f rfl
    obtain ⟨hname, hnod⟩ := pF_good _ _ _ _ _ HRD.out
    have HNM := hidIt hname
    have hnod2 : t.nodes ≤ 1000000000 := by have := HLEN.out; omega
    have hat' := hat
    obtain ⟨p, hp, hsk, hbox⟩ := hat'.ex
    refine (qtoken_any s (by omega) p hp _ _ W hbox).mono ?_
    rintro e w3 ⟨i, rfl, hi, hdi, hb3⟩
    have hdr : s.data.toList.drop i = r1 := hdi.trans hsk
    rw [hdr]
    have HA3 := hidIt (hat.go hb3)
    have HB3 := hidIt (HB.out.trans (Below.mono hb3 HB.out.size))
    have HK3 := hidIt (blk_kept HK.out hb3)
    have HP3 := hidIt (blk_kept HP.out hb3)
    have HF3 := hidIt (FormIn.go HF.out hb3)
    obtain ⟨X, hX⟩ : ∃ X : ByteArray, X = ⟨(rtk r1).toArray⟩ := ⟨_, rfl⟩
    have HXL : Hid (X.toList = rtk r1) := by show _ = _; rw [hX, Lib.toList_data]
    rw [← hX]
    clear hb3 hdi hbox hat hat' hsk hdr HB HK HST HF HP hX hname hnod
    by_cases hr1 : r1 = []
    case neg =>
      have HEE : Hid (parseT s = (zeroT, s.size - r1.length, 3)) := by
        show _ = _
        rw [HE.out]
        simp only [judge]
        rw [if_neg (fun h => hr1 (List.eq_nil_of_length_eq_zero h))]
      have hq : (X.toList == []) = false := by
        rw [beq_eq_false_iff_ne, HXL.out]
        unfold rtk
        rw [if_neg hr1]
        split
        · simp
        · rename_i h; exact h
      clear hr1
      go_wp2_with fail
      refine (qfail_any _ s _ w3 HA3.out).mono ?_
      rintro e w4 ⟨rfl, hbad4, hg4⟩
      have HBAD4 := hidIt hbad4
      have HB4 := hidIt (below_rw HB3.out hg4 (by omega))
      have HK4 := hidIt (own_kept HK3.out hg4 hRb)
      clear hbad4 hg4
      obtain ⟨p4, hp4, hbox4⟩ := HBAD4.out.ex
      obtain ⟨d0, d1, d2⟩ := hbox4.cells
      have hlb4 := hbox4.lt
      obtain ⟨s0, s1, s2⟩ := cell_of3 HK4.out
      obtain ⟨y0, y1, y2⟩ := cells_free HK4.out
      have hls := lt_of_block HK4.out
      have hx0 : (0 : Int) ≤ ((s.size - r1.length : Nat) : Int) := by omega
      go_wp2_with fail
      go_big_region
      go_wp2_with fail
      refine bodyPost_ret (v := .tuple #[.agg #[.int .i64 0, .string ⟨#[]⟩, .slice none 0 0], .int .i64 ((s.size - r1.length : Nat) : Int), .int .i64 3]) (by simp [results, Tryd.results23, go_sem, s0, s1, s2, hls]) rfl ?_
      exact ⟨0, ⟨#[]⟩, none, 0, 0, by rw [HEE.out], by rw [HEE.out]; exact zero_form _ _, below_rw HB4.out (only_drewN (set_three w4 w.heap.size _ _ _) 1) (Nat.le_refl _)⟩
    case pos =>
    subst hr1
    have hq : (X.toList == []) = true := by rw [beq_iff_eq, HXL.out]; rfl
    have HV := hidIt (valE_read HNM.out)
    have HJ : Hid (parseT s = if valE t = 0 then (t, 0, 0) else (zeroT, 0, 2)) := by
      show _ = _
      rw [HE.out]
      simp only [judge]
      exact if_pos rfl
    obtain ⟨p4, hp4, -, hbox4⟩ := HA3.out.ex
    obtain ⟨d0, d1, d2⟩ := hbox4.cells
    have hlb4 := hbox4.lt
    obtain ⟨s0, s1, s2⟩ := cell_of3 HK3.out
    obtain ⟨y0, y1, y2⟩ := cells_free HK3.out
    have hls := lt_of_block HK3.out
    obtain ⟨p0, p1, p2⟩ := cell_of3 HP3.out
    have hlp := lt_of_block HP3.out
    clear hbox4
    go_wp2_with fail
    refine (qsize_any t _ _ HF3.out.free hnod2).mono ?_
    rintro e w4 ⟨rfl, hb⟩
    have HF4 := hidIt (FormIn.go HF3.out hb)
    have HB4 := hidIt (HB3.out.trans (Below.mono hb HB3.out.size))
    have HK4 := hidIt (blk_kept HK3.out hb)
    have HP4 := hidIt (blk_kept HP3.out hb)
    clear hb HF3 HB3 HK3 HP3 d0 d1 d2 hlb4 s0 s1 s2 y0 y1 y2 hls p0 p1 p2 hlp
    obtain ⟨s0, s1, s2⟩ := cell_of3 HK4.out
    obtain ⟨y0, y1, y2⟩ := cells_free HK4.out
    have hls := lt_of_block HK4.out
    obtain ⟨p0, p1, p2⟩ := cell_of3 HP4.out
    have hlp := lt_of_block HP4.out
    by_cases hn6 : 600 < t.nodes
    · have hn6' : (600 : Int) < (t.nodes : Int) := by omega
      have HEE : Hid (parseT s = (zeroT, 0, 2)) := by show _ = _; rw [HJ.out, if_neg (fun h => by have := (HV.out.1 h).1; omega)]
      go_wp2_with fail
      refine bodyPost_ret (v := .tuple #[.agg #[.int .i64 0, .string ⟨#[]⟩, .slice none 0 0], .int .i64 0, .int .i64 2]) (by simp [results, Tryd.results23, go_sem, s0, s1, s2, hls]) rfl ?_
      exact ⟨0, ⟨#[]⟩, none, 0, 0, by rw [HEE.out]; rfl, by rw [HEE.out]; exact zero_form _ _, below_rw HB4.out (set_three w4 w.heap.size _ _ _) (Nat.le_refl _)⟩
    have hn6' : ¬ (600 : Int) < (t.nodes : Int) := by omega
    go_wp2_with fail
    refine (qdepth_any t _ _ HF4.out.free hnod2).mono ?_
    rintro e w5 ⟨rfl, hb⟩
    have HF5 := hidIt (FormIn.go HF4.out hb)
    have HB5 := hidIt (HB4.out.trans (Below.mono hb HB4.out.size))
    have HK5 := hidIt (blk_kept HK4.out hb)
    have HP5 := hidIt (blk_kept HP4.out hb)
    clear hb HF4 HB4 HK4 HP4 s0 s1 s2 y0 y1 y2 hls p0 p1 p2 hlp
    obtain ⟨s0, s1, s2⟩ := cell_of3 HK5.out
    obtain ⟨y0, y1, y2⟩ := cells_free HK5.out
    have hls := lt_of_block HK5.out
    obtain ⟨p0, p1, p2⟩ := cell_of3 HP5.out
    have hlp := lt_of_block HP5.out
    by_cases hd2 : 20 < t.depth
    · have hd2' : (20 : Int) < (t.depth : Int) := by omega
      have HEE : Hid (parseT s = (zeroT, 0, 2)) := by show _ = _; rw [HJ.out, if_neg (fun h => by have := (HV.out.1 h).2.1; omega)]
      go_wp2_with fail
      refine bodyPost_ret (v := .tuple #[.agg #[.int .i64 0, .string ⟨#[]⟩, .slice none 0 0], .int .i64 0, .int .i64 2]) (by simp [results, Tryd.results23, go_sem, s0, s1, s2, hls]) rfl ?_
      exact ⟨0, ⟨#[]⟩, none, 0, 0, by rw [HEE.out]; rfl, by rw [HEE.out]; exact zero_form _ _, below_rw HB5.out (set_three w5 w.heap.size _ _ _) (Nat.le_refl _)⟩
    have hd2' : ¬ (20 : Int) < (t.depth : Int) := by omega
    go_wp2_with fail
    refine (qkinds_any t _ _ HF5.out.free).mono ?_
    rintro e w6 ⟨rfl, hb⟩
    have HF6 := hidIt (FormIn.go HF5.out hb)
    have HB6 := hidIt (HB5.out.trans (Below.mono hb HB5.out.size))
    have HK6 := hidIt (blk_kept HK5.out hb)
    have HP6 := hidIt (blk_kept HP5.out hb)
    clear hb HF5 HB5 HK5 HP5 s0 s1 s2 y0 y1 y2 hls p0 p1 p2 hlp
    obtain ⟨s0, s1, s2⟩ := cell_of3 HK6.out
    obtain ⟨y0, y1, y2⟩ := cells_free HK6.out
    have hls := lt_of_block HK6.out
    obtain ⟨p0, p1, p2⟩ := cell_of3 HP6.out
    have hlp := lt_of_block HP6.out
    cases hkb : t.all kindB
    · have HEE : Hid (parseT s = (zeroT, 0, 2)) := by show _ = _; rw [HJ.out, if_neg (fun h => by have := (HV.out.1 h).2.2; rw [hkb] at this; cases this)]
      go_wp2_with fail
      refine bodyPost_ret (v := .tuple #[.agg #[.int .i64 0, .string ⟨#[]⟩, .slice none 0 0], .int .i64 0, .int .i64 2]) (by simp [results, Tryd.results23, go_sem, s0, s1, s2, hls]) rfl ?_
      exact ⟨0, ⟨#[]⟩, none, 0, 0, by rw [HEE.out]; rfl, by rw [HEE.out]; exact zero_form _ _, below_rw HB6.out (set_three w6 w.heap.size _ _ _) (Nat.le_refl _)⟩
    · have HEE : Hid (parseT s = (t, 0, 0)) := by show _ = _; rw [HJ.out, if_pos (HV.out.2 ⟨by omega, by omega, hkb⟩)]
      go_wp2_with fail
      refine bodyPost_ret (v := .tuple #[.agg #[.int .i64 o1, .string n1, .slice a1 k1 c1], .int .i64 0, .int .i64 0]) (by simp [results, Tryd.results23, go_sem, s0, s1, s2, hls]) rfl ?_
      have h3 := set_three w6 w.heap.size (.int .i64 o1) (.string n1) (.slice a1 k1 c1)
      refine ⟨o1, n1, a1, k1, c1, by rw [HEE.out]; rfl, ?_, below_rw HB6.out h3 (Nat.le_refl _)⟩
      rw [HEE.out]
      exact ((HF6.out.over (w1 := w) h3 (by omega)).mono fun i _ hi => by omega)
end Go.Proofs.YtilkpjcbmllgmaaDoor

namespace Go.Proofs.YtilkpjcbmllgmaaDoor
set_option linter.unusedVariables false
set_option linter.unusedSimpArgs false
open Go.RowKit

set_option maxRecDepth 100000 in
set_option maxHeartbeats 1000000 in
theorem qvalidate_any (t : Tree) (v : Value) (w : World) (h : FormAt w none v t) (hn : t.nodes ≤ 1000000000) :
    Calls Tryd.prog 17 #[v] w fun e w' => e = .returned (.int .i64 (valE t)) ∧ Below w.heap.size w w' := by
  obtain ⟨a, cap, b, off, rfl, hop, hname, hlen, hcap, -, -⟩ := h.form
  have H := hidIt (h.go ((Below.refl _ _).alloc (Nat.le_refl _) (.cells #[.int .i64 t.op, .string t.name, .slice a t.args.length cap] 24)))
  have HN := hidIt hn
  have HD := hidIt (depth_lt_nodes t)
  clear h hn
  by_cases g1 : 600 < t.nodes
  · have HV : Hid (valE t = 2) := by show _ = _; simp [valE, fitsAt]; omega
    have g1' : (600 : Int) < (t.nodes : Int) := by omega
    clear g1
    go_enter Tryd.func17, Tryd.ntmps17
    go_wp2_with fail
    refine (qsize_any t _ _ H.out HN.out).mono ?_
    rintro e w' ⟨rfl, hb⟩
    have HB := hidIt (below_box hb)
    clear hb
    go_wp2_with fail
    go_ret
    exact ⟨ret_int HV.out.symm, HB.out⟩
  have g1' : (t.nodes : Int) ≤ 600 := by omega
  by_cases g2 : 20 < t.depth
  · have HV : Hid (valE t = 2) := by show _ = _; simp [valE, fitsAt]; omega
    have g2' : (20 : Int) < (t.depth : Int) := by omega
    clear g1 g2
    go_enter Tryd.func17, Tryd.ntmps17
    go_wp2_with fail
    refine (qsize_any t _ _ H.out HN.out).mono ?_
    rintro e w' ⟨rfl, hb⟩
    have HB := hidIt (below_box hb)
    obtain ⟨p0, p1, p2⟩ := cell_of3 (laid_box hb)
    have hsz : w.heap.size < w'.heap.size := lt_of_block (laid_box hb)
    have HF := hidIt (H.out.go hb)
    clear hb
    go_wp2_with fail
    refine (qdepth_any t _ _ HF.out HN.out).mono ?_
    rintro e w2 ⟨rfl, hb2⟩
    have HB2 := hidIt (HB.out.trans (hb2.mono HB.out.size))
    clear hb2
    go_wp2_with fail
    go_ret
    exact ⟨ret_int HV.out.symm, HB2.out⟩
  have g2' : (t.depth : Int) ≤ 20 := by omega
  have HV : Hid (valE t = if t.all kindB then (if t.all nameB then 0 else 3) else 4) := by
    show _ = _
    have : fitsAt 0 0 t = true := by simp [fitsAt]; omega
    simp [valE, this]
  clear g1 g2
  go_enter Tryd.func17, Tryd.ntmps17
  go_wp2_with fail
  refine (qsize_any t _ _ H.out HN.out).mono ?_
  rintro e w' ⟨rfl, hb⟩
  have HB := hidIt (below_box hb)
  have K1 := laid_box hb
  obtain ⟨p0, p1, p2⟩ := cell_of3 K1
  have hsz : w.heap.size < w'.heap.size := lt_of_block K1
  have HF := hidIt (H.out.go hb)
  have HK1 := hidIt K1
  clear hb K1
  go_wp2_with fail
  refine (qdepth_any t _ _ HF.out HN.out).mono ?_
  rintro e w2 ⟨rfl, hb2⟩
  have HB2 := hidIt (HB.out.trans (hb2.mono HB.out.size))
  have HF2 := hidIt (HF.out.go hb2)
  have K2 := blk_kept HK1.out hb2
  clear p0 p1 p2 hsz
  obtain ⟨p0, p1, p2⟩ := cell_of3 K2
  have hsz : w.heap.size < w2.heap.size := lt_of_block K2
  have HK2 := hidIt K2
  clear hb2 K2
  go_wp2_with fail
  refine (qkinds_any t _ _ HF2.out).mono ?_
  rintro e w3 ⟨rfl, hb3⟩
  have HB3 := hidIt (HB2.out.trans (hb3.mono HB2.out.size))
  have HF3 := hidIt (HF2.out.go hb3)
  have K3 := blk_kept HK2.out hb3
  clear p0 p1 p2 hsz
  obtain ⟨p0, p1, p2⟩ := cell_of3 K3
  have hsz : w.heap.size < w3.heap.size := lt_of_block K3
  clear hb3 K3
  cases h2 : t.all kindB
  · have H2 := hidIt h2
    clear h2
    go_wp2_with fail
    go_ret
    exact ⟨ret_int (by rw [HV.out, H2.out]; rfl), HB3.out⟩
  have H2 := hidIt h2
  clear h2
  go_wp2_with fail
  refine (qnames_any t _ _ HF3.out).mono ?_
  rintro e w4 ⟨rfl, hb4⟩
  have HB4 := hidIt (HB3.out.trans (hb4.mono HB3.out.size))
  clear hb4
  cases h3 : t.all nameB
  · have H3 := hidIt h3
    clear h3
    go_wp2_with fail
    go_ret
    exact ⟨ret_int (by rw [HV.out, H2.out, H3.out]; rfl), HB4.out⟩
  · have H3 := hidIt h3
    clear h3
    go_wp2_with fail
    go_ret
    exact ⟨ret_int (by rw [HV.out, H2.out, H3.out]; rfl), HB4.out⟩
end Go.Proofs.YtilkpjcbmllgmaaDoor

namespace Go.Proofs.YtilkpjcbmllgmaaDoor
set_option linter.unusedVariables false
set_option linter.unusedSimpArgs false
open Go.RowKit

set_option maxHeartbeats 400000 in
theorem qstrength_any (t : Tree) (v : Value) (w : World) (h : FormAt w none v t) :
    Calls Tryd.prog 73 #[v] w fun e w' => e = .returned (.int .i64 (strengthI t)) ∧ Below w.heap.size w w' := by
  obtain ⟨a, cap, b, off, rfl, hop, hname, hlen, hcap, -, -⟩ := h.form
  have hK : Hid (strengthI t = if t.op = 8 then 1 else if t.op = 7 then 2 else if t.op = 6 then 3 else if t.op = 5 then 4 else 5) := rfl
  have hb : Hid (Below w.heap.size w (w.alloc (.cells #[.int .i64 t.op, .string t.name, .slice a t.args.length cap] 24))) := (Below.refl _ _).alloc (Nat.le_refl _) _
  generalize strengthI t = kb at *
  generalize t.args.length = n at *
  generalize t.op = op at *
  generalize t.name = nm at *
  unfold maxLen at hcap
  clear h
  go_enter Tryd.func73, Tryd.ntmps73
  go_wp2
  all_goals (go_ret; refine ⟨ret_int ?_, hb.out⟩; rw [hK.out]; grind)

def QTextOk (t : Tree) : Prop := ∀ (v : Value) (w : World), FormAt w none v t → Calls Tryd.prog 32 #[v] w fun e w' => e = .returned (.string (textB t)) ∧ Below w.heap.size w w'

set_option maxHeartbeats 400000 in
theorem qargument_any (t : Tree) (ht : QTextOk t) (hsz : (textB t).size ≤ 1000000) (v : Value) (least : Int) (hl : 0 ≤ least) (hl' : least ≤ 9) (w : World) (h : FormAt w none v t) :
    Calls Tryd.prog 53 #[v, .int .i64 least] w fun e w' => e = .returned (.string (partB (textB t) (strengthI t) least)) ∧ Below w.heap.size w w' := by
  obtain ⟨a, cap, b, off, rfl, hop, hname, hlen, hcap, -, -⟩ := h.form
  have H := hidIt (h.go ((Below.refl _ _).alloc (Nat.le_refl _) (.cells #[.int .i64 t.op, .string t.name, .slice a t.args.length cap] 24)))
  have HT := hidIt ht
  clear h ht
  by_cases hlt : strengthI t < least
  · have HE : Hid (partB (textB t) (strengthI t) least = ⟨#[40]⟩ ++ textB t ++ ⟨#[41]⟩) := by show _ = _; simp [partB, hlt]
    go_enter Tryd.func53, Tryd.ntmps53
    go_wp2_with fail
    refine (qstrength_any t _ _ H.out).mono ?_
    rintro e w' ⟨rfl, hb⟩
    have HB := hidIt (below_box hb)
    obtain ⟨p0, p1, p2⟩ := cell_of3 (laid_box hb)
    have hsz : w.heap.size < w'.heap.size := lt_of_block (laid_box hb)
    have HF := hidIt (H.out.go hb)
    clear hb
    go_wp2_with fail
    refine (HT.out _ _ HF.out).mono ?_
    rintro e w2 ⟨rfl, hb2⟩
    have HB2 := hidIt (HB.out.trans (hb2.mono HB.out.size))
    clear hb2
    go_wp2_with fail
    go_ret
    exact ⟨ret_str' HE.out.symm, HB2.out⟩
  · have HE : Hid (partB (textB t) (strengthI t) least = textB t) := by show _ = _; simp [partB, hlt]
    go_enter Tryd.func53, Tryd.ntmps53
    go_wp2_with fail
    refine (qstrength_any t _ _ H.out).mono ?_
    rintro e w' ⟨rfl, hb⟩
    have HB := hidIt (below_box hb)
    obtain ⟨p0, p1, p2⟩ := cell_of3 (laid_box hb)
    have hsz : w.heap.size < w'.heap.size := lt_of_block (laid_box hb)
    have HF := hidIt (H.out.go hb)
    clear hb
    go_wp2_with fail
    refine (HT.out _ _ HF.out).mono ?_
    rintro e w2 ⟨rfl, hb2⟩
    have HB2 := hidIt (HB.out.trans (hb2.mono HB.out.size))
    clear hb2
    go_wp2_with fail
    go_ret
    exact ⟨ret_str' HE.out.symm, HB2.out⟩

theorem joinB_snoc (sign : ByteArray) (l : List ByteArray) (k : Nat) (h1 : 1 ≤ k) (hk : k < l.length) : joinB sign (l.take (k + 1)) = joinB sign (l.take k) ++ sign ++ l[k] := by
  rw [take_snoc' l k hk]
  cases l with
  | nil => simp at hk
  | cons s l =>
    obtain ⟨k, rfl⟩ : ∃ m, k = m + 1 := ⟨k - 1, by omega⟩
    simp only [List.take_succ_cons, List.cons_append, joinB, List.foldl_append, List.foldl_cons, List.foldl_nil]

set_option maxRecDepth 100000 in
set_option maxHeartbeats 1000000 in
theorem qjoined_any (sign : ByteArray) (hs : sign.size ≤ 5) (least : Int) (hl : 0 ≤ least) (hl' : least ≤ 9) (ts : List Tree) (ht : ∀ t ∈ ts, QTextOk t) (hsz : ∀ t ∈ ts, (textB t).size ≤ 1000000) (h1 : 1 ≤ ts.length) (hn : ts.length ≤ 600) (a : Option Addr) (cap : Nat) (w : World) (h : FormsAt w none a ts) :
    Calls Tryd.prog 54 #[.slice a ts.length cap, .string sign, .int .i64 least] w fun e w' => e = .returned (.string (joinB sign (textsB least ts))) ∧ Below w.heap.size w w' := by
  have HF := hidIt h
  have HT := hidIt ht
  have HS := hidIt hsz
  obtain ⟨parts, hparts⟩ : ∃ p, p = textsB least ts := ⟨_, rfl⟩
  have hpl : parts.length = ts.length := by rw [hparts, textsB_map, List.length_map]
  have hpk : Hid (∀ k (h1 : k < parts.length) (h2 : k < ts.length), parts[k] = partB (textB ts[k]) (strengthI ts[k]) least) := by
    intro k h1 h2
    subst hparts
    simp only [textsB_map, List.getElem_map]
  have hps : Hid (∀ k, (joinB sign (parts.take k)).size ≤ 700000000) := by
    intro k
    have h1 := joinB_size sign (parts.take k)
    have h2 := sum_map_le (parts.take k) (fun s => s.size + sign.size) 1000010 (fun s hs' => by
      obtain ⟨k, hk, rfl⟩ := List.mem_iff_getElem.1 (List.mem_of_mem_take hs')
      have hk2 : k < ts.length := by omega
      have e2 := hpk.out k hk hk2
      have h3 := partB_size (textB ts[k]) (strengthI ts[k]) least
      have h4 := hsz _ (List.getElem_mem hk2)
      show parts[k].size + sign.size ≤ _
      rw [e2]
      omega)
    have h5 : (parts.take k).length * 1000010 ≤ 600 * 1000010 := Nat.mul_le_mul_right _ (by rw [List.length_take]; omega)
    omega
  rw [← hparts]
  obtain ⟨b, off, a', c', rfl, c0, c1, c2, hf⟩ := h.at 0 h1
  have HF0 := hidIt hf
  have hm : ts[0] ∈ ts := List.getElem_mem h1
  have ht0 := hidIt (ht _ hm)
  have hs0 := hsz _ hm
  have hx0 : Hid (partB (textB ts[0]) (strengthI ts[0]) least = joinB sign (parts.take 1)) := by
    show _ = _
    rw [← hpk.out 0 (by omega) h1]
    cases parts with
    | nil => simp at hpl; omega
    | cons s l => simp [joinB]
  have hnt : (ts.length : Int) ≤ 600 := by omega
  simp only [Nat.zero_mul, Nat.add_zero] at c0 c1 c2
  clear h ht hsz hparts hf hm
  generalize ts[0] = t0 at *
  go_enter Tryd.func54, Tryd.ntmps54
  go_wp2_with fail
  refine (qargument_any t0 ht0.out hs0 _ least hl hl' _ HF0.out).mono ?_
  rintro e w1 ⟨rfl, hb⟩
  have HB1 := hidIt hb
  rw [hx0.out]
  clear hb c0 c1 c2
  go_wp2_with fail
  go_loopw [7, 8] (fun s i wr => ∃ k : Nat, 1 ≤ k ∧ k ≤ ts.length ∧ i = .int .i64 k ∧ s = .string (joinB sign (parts.take k)) ∧ Hid (Below w.heap.size w wr)) (fun _ i _ => ts.length - (intOf i).toNat)
  case atStart => exact ⟨1, Nat.le_refl _, h1, rfl, rfl, HB1.out⟩
  case round =>
    obtain ⟨k, hk1, hk, rfl, rfl, hbel⟩ := hrel
    by_cases hlt : k < ts.length
    · obtain ⟨b', off', a', c', e', c0, c1, c2, hf⟩ := (HF.out.go hbel.out).at k hlt
      obtain ⟨rfl, rfl⟩ : b' = b ∧ off' = off := by
        injection e' with e2
        injection e2 with e3 e4
        exact ⟨e3.symm, e4.symm⟩
      have HF1 := hidIt hf
      have hm : ts[k] ∈ ts := List.getElem_mem hlt
      have htk := hidIt (HT.out _ hm)
      have hsk := HS.out _ hm
      have hpk2 := partB_size (textB ts[k]) (strengthI ts[k]) least
      have hx : Hid (joinB sign (parts.take (k + 1)) = joinB sign (parts.take k) ++ sign ++ partB (textB ts[k]) (strengthI ts[k]) least) := by
        show _ = _
        rw [joinB_snoc sign parts k hk1 (by omega), hpk.out k (by omega) hlt]
      have hsj := hps.out k
      have hlt0 : (k : Int) < (ts.length : Int) := by omega
      have hk0 : (0 : Int) ≤ (k : Int) := by omega
      clear hf e'
      generalize ts[k] = t at *
      generalize joinB sign (parts.take k) = acc at *
      go_wp2_with fail
      refine (qargument_any t htk.out hsk _ least hl hl' _ HF1.out).mono ?_
      rintro e w' ⟨rfl, hb⟩
      have HB := hidIt (hbel.out.trans (hb.mono hbel.out.size))
      clear hb
      go_wp2_with fail
      go_roundw
      case rel => exact ⟨k + 1, by omega, by omega, by go_num, by rw [hx.out], HB.out⟩
      case measure => simp [intOf]; omega
    · have hkn : k = ts.length := by omega
      go_wp2_with fail
      go_ret
      exact ⟨ret_str' (by rw [List.take_of_length_le (by omega)]), hbel.out⟩

set_option maxRecDepth 100000 in
set_option maxHeartbeats 1000000 in
theorem qtext_any : ∀ t : Tree, t.all kindB = true → t.all nameB = true → t.nodes ≤ 600 → QTextOk t := by
  refine Tree.ind fun op name ts ih hk hnm hn v w hv => ?_
  obtain ⟨k1, k2⟩ := all_self hk
  obtain ⟨n1, n2⟩ := all_self hnm
  have hargs := kindB_args k1
  have hnn : 1 + nodesL ts ≤ 600 := by simpa [Tree.nodes] using hn
  have hlen := nodes_len_le ts
  have IH : ∀ t ∈ ts, QTextOk t := fun t ht => ih t ht (allL_mem k2 t ht) (allL_mem n2 t ht) (by have := nodes_mem_le ht; omega)
  have HSZ : ∀ t ∈ ts, (textB t).size ≤ 1000000 := fun t ht => by have := textB_size t (allL_mem n2 t ht); have := nodes_mem_le ht; omega
  obtain ⟨a, cap, b, off, rfl, hop, hname, hlen', hcap, -, -⟩ := hv.form
  have HFS := hidIt hv.forms
  simp only [Tree.op_node, Tree.name_node, Tree.args_node] at *
  have hop8 : op = 1 ∨ op = 2 ∨ op = 3 ∨ op = 4 ∨ op = 5 ∨ op = 6 ∨ op = 7 ∨ op = 8 := by
    unfold kindB at k1
    simp only [Tree.op_node] at k1
    grind
  clear ih hk hnm k1 k2 n1 n2 hv hn hop
  obtain ⟨h4, h5, h7⟩ := hargs
  have IHH := hidIt IH
  have HSZH := hidIt HSZ
  clear IH HSZ
  rcases hop8 with rfl | rfl | rfl | rfl | rfl | rfl | rfl | rfl
  · have HE : Hid (textB (.node 1 name ts) = ⟨#[49]⟩) := by show _ = _; simp [textB]
    clear h4 h5 h7
    go_enter Tryd.func32, Tryd.ntmps32
    go_wp2_with fail
    go_ret
    exact ⟨ret_str' HE.out.symm, (Below.refl _ _).alloc (Nat.le_refl _) _⟩
  · have HE : Hid (textB (.node 2 name ts) = ⟨#[48]⟩) := by show _ = _; simp [textB]
    clear h4 h5 h7
    go_enter Tryd.func32, Tryd.ntmps32
    go_wp2_with fail
    go_ret
    exact ⟨ret_str' HE.out.symm, (Below.refl _ _).alloc (Nat.le_refl _) _⟩
  · have HE : Hid (textB (.node 3 name ts) = name) := by show _ = _; simp [textB]
    clear h4 h5 h7
    go_enter Tryd.func32, Tryd.ntmps32
    go_wp2_with fail
    go_ret
    exact ⟨ret_str' HE.out.symm, (Below.refl _ _).alloc (Nat.le_refl _) _⟩
  · obtain ⟨t, rfl⟩ : ∃ t, ts = [t] := List.length_eq_one_iff.1 (h4 rfl)
    have HE : Hid (textB (.node 4 name [t]) = ⟨#[126]⟩ ++ partB (textB t) (strengthI t) 5) := by show _ = _; simp [textB, textsB]
    have ht := hidIt (IHH.out t (by simp))
    have hts := HSZH.out t (by simp)
    have hps := partB_size (textB t) (strengthI t) 5
    obtain ⟨b', off', a', c', rfl, c0, c1, c2, hf⟩ := HFS.out.at 0 (by simp)
    simp only [List.getElem_cons_zero] at c0 c1 c2 hf
    have HF := hidIt hf
    have hbl := World.block_lt_of_cell? w ⟨b', off' + 0 * 3, none⟩ c0
    simp only [Nat.zero_mul, Nat.add_zero, List.length_singleton] at c0 c1 c2 hbl hlen'
    have h01 : ([t] : List Tree).length = 1 := rfl
    rw [h01]
    clear hf h4 h5 h7
    go_enter Tryd.func32, Tryd.ntmps32
    go_wp2_with fail
    refine (qargument_any t ht.out hts _ 5 (by omega) (by omega) _ (HF.out.go ((Below.refl _ _).alloc (Nat.le_refl _) _))).mono ?_
    rintro e w' ⟨rfl, hb⟩
    have HB := hidIt (below_box hb)
    clear hb
    go_wp2_with fail
    go_ret
    exact ⟨ret_str' HE.out.symm, HB.out⟩
  · have HE : Hid (textB (.node 5 name ts) = joinB ⟨#[32, 38, 32]⟩ (textsB 5 ts)) := by show _ = _; simp [textB]
    have hone : 1 ≤ ts.length := by have := h5 (by simp); omega
    clear h4 h5 h7
    go_enter Tryd.func32, Tryd.ntmps32
    go_wp2_with fail
    refine (qjoined_any ⟨#[32, 38, 32]⟩ (by decide) 5 (by omega) (by omega) ts IHH.out HSZH.out hone (by omega) a cap _ (HFS.out.go ((Below.refl _ _).alloc (Nat.le_refl _) _))).mono ?_
    rintro e w' ⟨rfl, hb⟩
    have HB := hidIt (below_box hb)
    clear hb
    go_wp2_with fail
    go_ret
    exact ⟨ret_str' HE.out.symm, HB.out⟩
  · have HE : Hid (textB (.node 6 name ts) = joinB ⟨#[32, 124, 32]⟩ (textsB 4 ts)) := by show _ = _; simp [textB]
    have hone : 1 ≤ ts.length := by have := h5 (by simp); omega
    clear h4 h5 h7
    go_enter Tryd.func32, Tryd.ntmps32
    go_wp2_with fail
    refine (qjoined_any ⟨#[32, 124, 32]⟩ (by decide) 4 (by omega) (by omega) ts IHH.out HSZH.out hone (by omega) a cap _ (HFS.out.go ((Below.refl _ _).alloc (Nat.le_refl _) _))).mono ?_
    rintro e w' ⟨rfl, hb⟩
    have HB := hidIt (below_box hb)
    clear hb
    go_wp2_with fail
    go_ret
    exact ⟨ret_str' HE.out.symm, HB.out⟩
  · obtain ⟨t, u, rfl⟩ : ∃ t u, ts = [t, u] := len_two (h7 (.inl rfl))
    have HE : Hid (textB (.node 7 name [t, u]) = partB (textB t) (strengthI t) 3 ++ ⟨#[32, 45, 62, 32]⟩ ++ partB (textB u) (strengthI u) 2) := by show _ = _; simp [textB, textsB]
    have ht := hidIt (IHH.out t (by simp))
    have hts := HSZH.out t (by simp)
    have hps := partB_size (textB t) (strengthI t) 3
    have hu := hidIt (IHH.out u (by simp))
    have hus := HSZH.out u (by simp)
    have hpu := partB_size (textB u) (strengthI u) 2
    obtain ⟨b', off', a', c', rfl, c0, c1, c2, hf⟩ := HFS.out.at 0 (by simp)
    obtain ⟨b2, off2, a2, c2', e2, d0, d1, d2, hf2⟩ := HFS.out.at 1 (by simp)
    obtain ⟨rfl, rfl⟩ : b2 = b' ∧ off2 = off' := by
      injection e2 with e2
      injection e2 with e3 e4
      exact ⟨e3.symm, e4.symm⟩
    simp only [List.getElem_cons_zero, List.getElem_cons_succ] at c0 c1 c2 hf d0 d1 d2 hf2
    simp only [Nat.zero_mul, Nat.add_zero, Nat.one_mul] at c0 c1 c2 d0 d1 d2
    simp only [List.length_cons, List.length_nil] at hlen'
    have h01 : ([t, u] : List Tree).length = 2 := rfl
    rw [h01]
    have HBX : Hid (Below w.heap.size w (w.alloc (.cells #[.int .i64 7, .string name, .slice (some ⟨b2, off2, none⟩) 2 cap] 24))) := (Below.refl _ _).alloc (Nat.le_refl _) _
    have hbl := World.block_lt_of_cell? w ⟨b2, off2, none⟩ c0
    have k2 : (w.alloc (.cells #[.int .i64 7, .string name, .slice (some ⟨b2, off2, none⟩) 2 cap] 24)).cell? ⟨w.heap.size, 2, none⟩ = some (.slice (some ⟨b2, off2, none⟩) 2 cap) := (cell_of3 (heap_alloc_new w _)).2.2
    rw [← HBX.out.cell (p := ⟨b2, off2, none⟩) hbl] at c0
    rw [← HBX.out.cell (p := ⟨b2, off2 + 1, none⟩) hbl] at c1
    rw [← HBX.out.cell (p := ⟨b2, off2 + 2, none⟩) hbl] at c2
    rw [← HBX.out.cell (p := ⟨b2, off2 + 3, none⟩) hbl] at d0
    rw [← HBX.out.cell (p := ⟨b2, off2 + 3 + 1, none⟩) hbl] at d1
    rw [← HBX.out.cell (p := ⟨b2, off2 + 3 + 2, none⟩) hbl] at d2
    have HF := hidIt (hf.go HBX.out)
    have HF2 := hidIt (hf2.go HBX.out)
    have K0 := fun y => Ext.cell c0 y
    have K1 := fun y => Ext.cell c1 y
    have K2 := fun y => Ext.cell c2 y
    have L0 := fun y => Ext.cell d0 y
    have L1 := fun y => Ext.cell d1 y
    have L2 := fun y => Ext.cell d2 y
    have M2 := fun y => Ext.cell k2 y
    clear hf hf2 h4 h5 h7 c0 c1 c2 d0 d1 d2 k2 e2
    go_enter Tryd.func32, Tryd.ntmps32
    go_wp2_with fail
    generalize (w.alloc (.cells #[.int .i64 7, .string name, .slice (some ⟨b2, off2, none⟩) 2 cap] 24)) = W at *
    haveI := Ext.nonempty W
    refine wp_region_in (Ext W) (by kernel_rfl) (by kernel_rfl) (Ext.start W) ?_
    repeat (go_big_quiet_step (first
      | (with_reducible (refine Ext.call (qargument_any t ht.out hts _ 3 (by omega) (by omega) _ (FormAt.go HF.out (In.h _)))))
      | (with_reducible (refine Ext.call (qargument_any u hu.out hus _ 2 (by omega) (by omega) _ (FormAt.go HF2.out (In.h _)))))))
    refine wpQuiet_nil ?_
    rintro w5 ⟨⟨_, h5⟩, rfl⟩
    have HB5 : Hid (Below w.heap.size w w5) := HBX.out.trans (Below.mono h5 HBX.out.size)
    clear h5 K0 K1 K2 L0 L1 L2 M2
    go_wp2_with fail
    go_ret
    exact ⟨ret_str' HE.out.symm, HB5.out⟩
  · have HE : Hid (textB (.node 8 name ts) = joinB ⟨#[32, 60, 45, 62, 32]⟩ (textsB 2 ts)) := by show _ = _; simp [textB]
    have hone : 1 ≤ ts.length := by have := h7 (by simp); omega
    clear h4 h5 h7
    go_enter Tryd.func32, Tryd.ntmps32
    go_wp2_with fail
    refine (qjoined_any ⟨#[32, 60, 45, 62, 32]⟩ (by decide) 2 (by omega) (by omega) ts IHH.out HSZH.out hone (by omega) a cap _ (HFS.out.go ((Below.refl _ _).alloc (Nat.le_refl _) _))).mono ?_
    rintro e w' ⟨rfl, hb⟩
    have HB := hidIt (below_box hb)
    clear hb
    go_wp2_with fail
    go_ret
    exact ⟨ret_str' HE.out.symm, HB.out⟩
end Go.Proofs.YtilkpjcbmllgmaaDoor

namespace Go.Proofs.YtilkpjcbmllgmaaDoor
set_option linter.unusedVariables false
set_option linter.unusedSimpArgs false
open Go Go.RowKit

set_option maxHeartbeats 400000 in
theorem qformat_any (t : Tree) (v : Value) (w : World) (h : FormAt w none v t) (hn : t.nodes ≤ 1000000000) :
    Calls Tryd.prog 11 #[v] w fun e w' => e = .returned (.tuple #[.string (fmtT t), .int .i64 (fmtI t)]) ∧ Below w.heap.size w w' := by
  obtain ⟨a, cap, b, off, rfl, hop, hname, hlen, hcap, -, -⟩ := h.form
  have H := hidIt (h.go ((Below.refl _ _).alloc (Nat.le_refl _) (.cells #[.int .i64 t.op, .string t.name, .slice a t.args.length cap] 24)))
  have HN := hidIt hn
  clear h hn
  by_cases hv : valE t = 0
  · obtain ⟨h1, -, h3, h4⟩ := valE_zero hv
    have HT := hidIt (qtext_any t h3 h4 h1)
    have hsz := textB_size t h4
    have HV := hidIt hv
    by_cases hl : 4096 < (textB t).size
    · have HI : Hid (fmtI t = 2) := by show _ = _; unfold fmtI; rw [if_pos hv, if_pos hl]
      have HE : Hid (fmtT t = ⟨#[]⟩) := by show _ = _; unfold fmtT; rw [HI.out]; rfl
      have hl' : (4096 : Int) < ((textB t).size : Int) := by omega
      clear hv h3 h4 hl
      go_enter Tryd.func11, Tryd.ntmps11
      go_wp2_with fail
      refine (qvalidate_any t _ _ H.out HN.out).mono ?_
      rintro e w' ⟨rfl, hb⟩
      rw [HV.out]
      have HB := hidIt (below_box hb)
      obtain ⟨p0, p1, p2⟩ := cell_of3 (laid_box hb)
      have hsz : w.heap.size < w'.heap.size := lt_of_block (laid_box hb)
      have HF := hidIt (H.out.go hb)
      clear hb
      go_wp2_with fail
      refine (HT.out _ _ HF.out).mono ?_
      rintro e w2 ⟨rfl, hb2⟩
      have HB2 := hidIt (HB.out.trans (hb2.mono HB.out.size))
      clear hb2
      go_wp2_with fail
      go_ret2
      exact ⟨ret_two (congrArg Value.string HE.out.symm) (congrArg (Value.int .i64) HI.out.symm), HB2.out⟩
    · have HI : Hid (fmtI t = 0) := by show _ = _; unfold fmtI; rw [if_pos hv, if_neg hl]
      have HE : Hid (fmtT t = textB t) := by show _ = _; unfold fmtT; rw [HI.out]; rfl
      have hl' : decide ((4096 : Int) < ((textB t).size : Int)) = false := by simp; omega
      clear hv h3 h4
      go_enter Tryd.func11, Tryd.ntmps11
      go_wp2_with fail
      refine (qvalidate_any t _ _ H.out HN.out).mono ?_
      rintro e w' ⟨rfl, hb⟩
      rw [HV.out]
      have HB := hidIt (below_box hb)
      obtain ⟨p0, p1, p2⟩ := cell_of3 (laid_box hb)
      have hsz : w.heap.size < w'.heap.size := lt_of_block (laid_box hb)
      have HF := hidIt (H.out.go hb)
      clear hb
      go_wp2_with fail
      refine (HT.out _ _ HF.out).mono ?_
      rintro e w2 ⟨rfl, hb2⟩
      have HB2 := hidIt (HB.out.trans (hb2.mono HB.out.size))
      clear hb2
      go_wp2_with fail
      go_ret2
      exact ⟨ret_two (congrArg Value.string HE.out.symm) (congrArg (Value.int .i64) HI.out.symm), HB2.out⟩
  · have HI : Hid (fmtI t = valE t) := by show _ = _; unfold fmtI; rw [if_neg hv]
    have HE : Hid (fmtT t = ⟨#[]⟩) := by show _ = _; unfold fmtT; rw [HI.out, if_neg hv]
    have hz : (valE t == 0) = false := by simp [hv]
    have hz2 : (valE t != 0) = true := by simp [hv]
    have hr := valE_range t
    have HR := hidIt hr
    clear hr
    go_enter Tryd.func11, Tryd.ntmps11
    go_wp2_with fail
    refine (qvalidate_any t _ _ H.out HN.out).mono ?_
    rintro e w' ⟨rfl, hb⟩
    have HB := hidIt (below_box hb)
    clear hb
    go_wp2_with fail
    go_ret2
    exact ⟨ret_two (congrArg Value.string HE.out.symm) (congrArg (Value.int .i64) HI.out.symm), HB.out⟩
end Go.Proofs.YtilkpjcbmllgmaaDoor

namespace Go.Proofs.YtilkpjcbmllgmaaDoor
set_option linter.unusedVariables false
set_option linter.unusedSimpArgs false
open Go.RowKit

/-- Are the two formulas the same tree? -/
noncomputable def sameP (t u : Tree) : Bool := @decide (t = u) (Classical.propDecidable _)
theorem sameP_true {t u : Tree} (h : t = u) : sameP t u = true := @decide_eq_true _ (Classical.propDecidable _) h
theorem sameP_false {t u : Tree} (h : t ≠ u) : sameP t u = false := @decide_eq_false _ (Classical.propDecidable _) h
theorem sameP_eq {t u : Tree} (h : sameP t u = true) : t = u := @of_decide_eq_true _ (Classical.propDecidable _) h
theorem sameP_ne {t u : Tree} (h : sameP t u = false) : t ≠ u := @of_decide_eq_false _ (Classical.propDecidable _) h

theorem ret_bl {a b : Bool} (h : a = b) : Ending.returned (.bool a) = .returned (.bool b) := by rw [h]

set_option maxRecDepth 100000 in
set_option maxHeartbeats 2000000 in
theorem qsameP_any : ∀ (t u : Tree) (v x : Value) (w : World), FormAt w none v t → FormAt w none x u →
    Calls Tryd.prog 24 #[v, x] w fun e w' => e = .returned (.bool (sameP t u)) ∧ Below w.heap.size w w' := by
  refine Tree.ind fun op name ts ih u v x w hv hu => ?_
  obtain ⟨op2, name2, us⟩ := u
  obtain ⟨a, cap, b, off, rfl, hop, hname, hlen, hcap, -, -⟩ := hv.form
  obtain ⟨a2, cap2, b2, off2, rfl, -, -, hlen2, hcap2, -, -⟩ := hu.form
  have HV := hidIt hv.forms
  have HU := hidIt hu.forms
  simp only [Tree.op_node, Tree.name_node, Tree.args_node] at *
  have IH := hidIt ih
  unfold maxLen at hcap hcap2
  clear ih hv hu
  have HB0 : Hid (Below w.heap.size w ((w.alloc (.cells #[.int .i64 op, .string name, .slice a ts.length cap] 24)).alloc (.cells #[.int .i64 op2, .string name2, .slice a2 us.length cap2] 24))) := ((Below.refl _ _).alloc (Nat.le_refl _) _).alloc (by simp) _
  have HX : Hid (((w.alloc (.cells #[.int .i64 op, .string name, .slice a ts.length cap] 24)).alloc (.cells #[.int .i64 op2, .string name2, .slice a2 us.length cap2] 24)).heap[w.heap.size]? = some (.cells #[.int .i64 op, .string name, .slice a ts.length cap] 24 (0, 0))) := blk_kept (heap_alloc_new w _) ((Below.refl _ _).alloc (Nat.le_refl _) _)
  have HY : Hid (((w.alloc (.cells #[.int .i64 op, .string name, .slice a ts.length cap] 24)).alloc (.cells #[.int .i64 op2, .string name2, .slice a2 us.length cap2] 24)).heap[w.heap.size + 1]? = some (.cells #[.int .i64 op2, .string name2, .slice a2 us.length cap2] 24 (0, 0))) := heap_alloc_at (by simp)
  by_cases ho : op = op2
  case neg =>
    have HS : Hid (sameP (.node op name ts) (.node op2 name2 us) = false) := sameP_false (fun e => ho (by injection e))
    go_enter Tryd.func24, Tryd.ntmps24
    go_wp2_with fail
    go_ret
    exact ⟨ret_bl HS.out.symm, HB0.out⟩
  case pos =>
  subst ho
  by_cases hn : name = name2
  case neg =>
    have e0 : ¬ name.toList = name2.toList := by
      intro e
      rw [Lib.toList_data, Lib.toList_data] at e
      exact hn (ByteArray.ext (Array.toList_inj.1 e))
    have HS : Hid (sameP (.node op name ts) (.node op name2 us) = false) := sameP_false (fun e => hn (by injection e))
    clear hn
    go_enter Tryd.func24, Tryd.ntmps24
    go_wp2_with fail
    go_ret
    exact ⟨ret_bl HS.out.symm, HB0.out⟩
  case pos =>
  subst hn
  have hnm : (name.toList == name.toList) = true := beq_self_eq_true _
  by_cases hl : ts.length = us.length
  case neg =>
    have e0 : ((ts.length : Int) != (us.length : Int)) = true := by rw [bne_iff_ne]; omega
    have HS : Hid (sameP (.node op name ts) (.node op name us) = false) := sameP_false (fun e => hl (by injection e with _ _ e; rw [e]))
    go_enter Tryd.func24, Tryd.ntmps24
    go_wp2_with fail
    go_ret
    exact ⟨ret_bl HS.out.symm, HB0.out⟩
  case pos =>
  have HL := hidIt hl.symm
  rw [← hl] at HB0 HX HY hlen2 ⊢
  clear hl
  go_enter Tryd.func24, Tryd.ntmps24
  go_wp2_with fail
  generalize ((w.alloc (.cells #[.int .i64 op, .string name, .slice a ts.length cap] 24)).alloc (.cells #[.int .i64 op, .string name, .slice a2 ts.length cap2] 24)) = W at *
  go_loopw [5] (fun i wr => ∃ k : Nat, k ≤ ts.length ∧ i = .int .i64 k ∧ Hid (∀ j (h : j < ts.length) (h' : j < us.length), j < k → ts[j] = us[j]) ∧ Hid (Below W.heap.size W wr)) (fun i _ => ts.length - (intOf i).toNat)
  case atStart => exact ⟨0, Nat.zero_le _, rfl, fun j _ _ h => by omega, Below.refl _ _⟩
  case round =>
    obtain ⟨k, hk, rfl, hall, hbel⟩ := hrel
    have HBw := hidIt (HB0.out.trans (hbel.out.mono HB0.out.size))
    have kX := blk_kept HX.out hbel.out
    have kY := blk_kept HY.out hbel.out
    obtain ⟨x0, x1, x2⟩ := cell_of3 kX
    obtain ⟨y0, y1, y2⟩ := cell_of3 kY
    have hlx := lt_of_block kY
    clear kX kY
    by_cases hlt : k < ts.length
    · obtain ⟨b', off', a', c', rfl, c0, c1, c2, hf⟩ := (HV.out.go HBw.out).at k hlt
      obtain ⟨b2', off2', a2', c2', rfl, d0, d1, d2, hg⟩ := (HU.out.go HBw.out).at k (by rw [HL.out]; exact hlt)
      have HF := hidIt hf
      have HG := hidIt hg
      have hm : ts[k] ∈ ts := List.getElem_mem hlt
      have HST : Hid (ts[k] = us[k]'(by rw [HL.out]; exact hlt) → ∀ j (h : j < ts.length) (h' : j < us.length), j < k + 1 → ts[j] = us[j]) := fun e j h h' hj => by
        by_cases ej : j = k
        · subst ej; exact e
        · exact hall.out j h h' (by omega)
      have HNE : Hid (ts[k] ≠ us[k]'(by rw [HL.out]; exact hlt) → sameP (.node op name ts) (.node op name us) = false) := fun e => sameP_false (fun e' => e (by injection e' with _ _ e'; subst e'; rfl))
      clear hf hg hall
      generalize ts[k] = t at *
      generalize (us[k]'(by rw [HL.out]; exact hlt)) = u at *
      obtain ⟨r, hr⟩ : ∃ r, sameP t u = r := ⟨_, rfl⟩
      have HC := hidIt (fun (w : World) (v x : Value) h1 h2 => IH.out t hm u v x w h1 h2)
      rw [hr] at HC
      have HRR := hidIt hr
      clear hr
      have K0 := fun y => Ext.cell c0 y
      have K1 := fun y => Ext.cell c1 y
      have K2 := fun y => Ext.cell c2 y
      have L0 := fun y => Ext.cell d0 y
      have L1 := fun y => Ext.cell d1 y
      have L2 := fun y => Ext.cell d2 y
      have M0 := fun y => Ext.cell x2 y
      have M1 := fun y => Ext.cell y2 y
      have hlt0 : (k : Int) < (ts.length : Int) := by omega
      have hk0 : (0 : Int) ≤ (k : Int) := by omega
      cases r
      · go_wp2_with fail
        haveI := Ext.nonempty wr
        refine wp_region_in (Ext wr) (by kernel_rfl) (by kernel_rfl) (Ext.start wr) ?_
        repeat (go_big_quiet_step ((go_at_call 24; refine Ext.call (HC.out _ _ _ (FormAt.go HF.out (In.h _)) (FormAt.go HG.out (In.h _))))))
        refine wpQuiet_nil ?_
        rintro w5 ⟨⟨_, h5⟩, rfl⟩
        have HB5 : Hid (Below w.heap.size w w5) := HBw.out.trans (Below.mono h5 HBw.out.size)
        clear h5 K0 K1 K2 L0 L1 L2 M0 M1
        go_wp2_with fail
        go_ret
        exact ⟨ret_bl (HNE.out (sameP_ne HRR.out)).symm, HB5.out⟩
      · go_wp2_with fail
        haveI := Ext.nonempty wr
        refine wp_region_in (Ext wr) (by kernel_rfl) (by kernel_rfl) (Ext.start wr) ?_
        repeat (go_big_quiet_step ((go_at_call 24; refine Ext.call (HC.out _ _ _ (FormAt.go HF.out (In.h _)) (FormAt.go HG.out (In.h _))))))
        refine wpQuiet_nil ?_
        rintro w5 ⟨⟨_, h5⟩, rfl⟩
        have HB5 : Hid (Below W.heap.size W w5) := hbel.out.trans (Below.mono h5 hbel.out.size)
        clear h5 K0 K1 K2 L0 L1 L2 M0 M1
        go_wp2_with fail
        go_roundw
        case rel => exact ⟨k + 1, by omega, by go_num, HST.out (sameP_eq HRR.out), HB5.out⟩
        case measure => simp [intOf]; omega
    · obtain rfl : k = ts.length := by omega
      have HS : Hid (sameP (.node op name ts) (.node op name us) = true) := sameP_true (by
        have : ts = us := List.ext_getElem HL.out.symm fun j h h' => hall.out j h h' h
        rw [this])
      go_wp2_with fail
      go_ret
      exact ⟨ret_bl HS.out.symm, HBw.out⟩
end Go.Proofs.YtilkpjcbmllgmaaDoor

namespace Go.Proofs.YtilkpjcbmllgmaaDoor
set_option linter.unusedVariables false
set_option linter.unusedSimpArgs false
open Go.RowKit

/-- A list of strings that has been laid whole. -/
def strRowK (ss : List ByteArray) : Array Value := (ss.map Value.string).toArray
theorem strK_cell {w : World} {lb : Nat} {ss : List ByteArray} (h : w.heap[lb]? = some (.cells (strRowK ss) 9 (0, 0))) (m : Nat) (hm : m < ss.length) : w.cell? ⟨lb, m, none⟩ = some (.string (ss[m])) := by
  simp [World.cell?, h, strRowK, hm]

set_option maxHeartbeats 400000 in
theorem stext_any (lb : Nat) (ss : List ByteArray) (hss : 1 ≤ ss.length) (hss' : ss.length ≤ 1000) (B b : Nat) (zs : List Int) (k : Nat) (w : World) (h : SrcAt w B b zs k) (hl : w.heap[lb]? = some (.cells (strRowK ss) 9 (0, 0))) (hne : lb ≠ b) :
    Calls Tryd.prog 21 #[.pointer (some ⟨b, 0, none⟩), .slice (some ⟨lb, 0, none⟩) ss.length ss.length] w fun e w' => ∃ (s : ByteArray) (k' : Nat), e = .returned (.string s) ∧ s ∈ ss ∧ SrcAt w' B b zs k' ∧ w.grownBy w' (some b) := by
  have H := hidIt h
  have HL := hidIt hl
  clear h hl
  go_enter Tryd.func21, Tryd.ntmps21
  go_wp2_with fail
  refine (sn_nat _ (by omega) (by omega) B b zs k _ H.out).mono ?_
  rintro e w' ⟨m, k', rfl, hm, hs, hg⟩
  have hm' : m < ss.length := by omega
  have hc : w'.cell? ⟨lb, m, none⟩ = some (.string (ss[m])) := hg.cell (strK_cell HL.out m hm') (fun e => hne (by injection e))
  have HS := hidIt hs; have HG := hidIt hg; clear hs hg
  have hmem : Hid (ss[m] ∈ ss) := List.getElem_mem hm'
  generalize ss[m] = s at hc hmem
  go_wp2
  go_ret
  exact ⟨s, k', rfl, hmem.out, HS.out, HG.out⟩
end Go.Proofs.YtilkpjcbmllgmaaDoor

namespace Go.Proofs.YtilkpjcbmllgmaaDoor
set_option linter.unusedVariables false
set_option linter.unusedSimpArgs false
open Go.RowKit

def exT : Tree := .node 7 ⟨#[]⟩ [.node 5 ⟨#[]⟩ [.node 3 ⟨#[97]⟩ [], .node 3 ⟨#[98]⟩ []], .node 3 ⟨#[99]⟩ []]
theorem ex1 : parseT ⟨#[97, 38, 98, 32, 45, 62, 32, 40, 99, 41]⟩ = (exT, 0, 0) := by kernel_rfl
theorem ex2 : parseT ⟨#[97, 32, 60, 45, 62, 32, 98, 32, 60, 45, 62, 32, 99]⟩ = (zeroT, 8, 3) := by kernel_rfl
theorem ex3 : parseT ⟨#[97, 32, 38]⟩ = (zeroT, 3, 3) := by kernel_rfl
theorem ex4 : fmtT exT = ⟨#[97, 32, 38, 32, 98, 32, 45, 62, 32, 99]⟩ := by kernel_rfl
theorem ex5 : fmtI exT = 0 := by kernel_rfl
theorem ex6 : exT.nodes = 5 := by kernel_rfl
theorem ex7 : exT.depth = 2 := by kernel_rfl

/-- Parse at a text whose outcome is known. -/
theorem parse_at (s : ByteArray) (hs : s.size ≤ maxLen) (t : Tree) (m : Nat) (x : Int) (h : parseT s = (t, m, x)) (w : World) (hsg : SignsAt w) :
    Calls Tryd.prog 22 #[.string s] w fun e w' => ∃ (a : Option Addr) (c : Nat), e = .returned (.tuple #[.agg #[.int .i64 t.op, .string t.name, .slice a t.args.length c], .int .i64 (m : Int), .int .i64 x]) ∧
      FormIn w' (fun i => w.heap.size ≤ i) (.agg #[.int .i64 t.op, .string t.name, .slice a t.args.length c]) t ∧ Below w.heap.size w w' :=
  (parse_any s hs w hsg).mono fun e w' ⟨op, nm, a, n, c, he, hf, hb⟩ => by
    rw [h] at he hf
    obtain ⟨rfl, rfl, rfl⟩ := hf.shape
    exact ⟨a, c, he, hf, hb⟩

set_option maxRecDepth 100000 in
set_option maxHeartbeats 2000000 in
theorem awake2_any (w : World) (hsg : SignsAt w) : Calls Tryd.prog 18 #[] w fun e w' => e = .returned (.bool true) ∧ Below w.heap.size w w' := by
  have HSG := hidIt hsg
  clear hsg
  go_enter Tryd.func18, Tryd.ntmps18
  go_wp2_with fail
  refine (parse_at _ (by unfold maxLen; decide) exT 0 0 ex1 w HSG.out).mono ?_
  rintro e w1 ⟨a, c, rfl, hf, hb⟩
  have e1 : exT.op = 7 := rfl
  have e2 : exT.name = ⟨#[]⟩ := rfl
  have e3 : exT.args.length = 2 := rfl
  rw [e1, e2, e3] at hf ⊢
  have HF := hidIt hf.free
  have HB := hidIt hb
  clear hb hf e1 e2 e3
  go_wp2_with fail
  refine (fformat_any exT _ _ (HF.out.go ((Below.refl _ _).alloc (Nat.le_refl _) _))).mono ?_
  rintro e w2 ⟨rfl, hb2⟩
  rw [ex4, ex5]
  have HB2 := hidIt (HB.out.trans ((below_box hb2).mono HB.out.size))
  have HK2 := hidIt (laid_box hb2)
  have hsz2 := lt_of_block HK2.out
  have HF2 := hidIt (HF.out.go (below_box hb2))
  clear hb2 HF
  go_wp2_with fail
  refine (parse_at _ (by unfold maxLen; decide) zeroT 8 3 ex2 w2 (HSG.out.go HB2.out)).mono ?_
  rintro e w3 ⟨a3, c3, rfl, hf3, hb3⟩
  have e1 : zeroT.op = 0 := rfl
  have e2 : zeroT.name = ⟨#[]⟩ := rfl
  have e3 : zeroT.args.length = 0 := rfl
  rw [e1, e2, e3]
  have HB3 := hidIt (HB2.out.trans (hb3.mono HB2.out.size))
  have HK3 := hidIt (blk_kept HK2.out hb3)
  have hsz3 := lt_of_block HK3.out
  have HF3 := hidIt (HF2.out.go hb3)
  clear hb3 HF2 hf3
  go_wp2_with fail
  refine (parse_at _ (by unfold maxLen; decide) zeroT 3 3 ex3 _ (HSG.out.go (HB3.out.alloc HB3.out.size _))).mono ?_
  rintro e w4 ⟨a4, c4, rfl, hf4, hb4⟩
  rw [e1, e2, e3]
  have HB4 := hidIt (HB3.out.trans ((below_box hb4).mono HB3.out.size))
  have HK4 := hidIt (blk_kept HK3.out (below_box hb4))
  have hsz4 := lt_of_block HK4.out
  obtain ⟨p0, p1, p2⟩ := cell_of3 HK4.out
  have HF4 := hidIt (HF3.out.go (below_box hb4))
  clear hb4 hf4 HF3 e1 e2 e3
  go_wp2_with fail
  refine (size_any exT _ _ (HF4.out.go ((Below.refl _ _).alloc (Nat.le_refl _) _)) (by rw [ex6]; omega)).mono ?_
  rintro e w5 ⟨rfl, hb5⟩
  rw [ex6]
  have HB5 := hidIt (HB4.out.trans ((below_box hb5).mono HB4.out.size))
  have HK5 := hidIt (blk_kept HK4.out (below_box hb5))
  have hsz5 := lt_of_block HK5.out
  have HF5 := hidIt (HF4.out.go (below_box hb5))
  clear p0 p1 p2 hb5
  obtain ⟨p0, p1, p2⟩ := cell_of3 HK5.out
  go_wp2_with fail
  refine (depth_any exT _ _ HF5.out (by rw [ex6]; omega)).mono ?_
  rintro e w6 ⟨rfl, hb6⟩
  rw [ex7]
  have HB6 := hidIt (HB5.out.trans (hb6.mono HB5.out.size))
  clear hb6
  go_wp2_with fail
  go_ret
  exact ⟨rfl, HB6.out⟩
end Go.Proofs.YtilkpjcbmllgmaaDoor

namespace Go.Proofs.YtilkpjcbmllgmaaDoor
set_option linter.unusedVariables false
set_option linter.unusedSimpArgs false
open Go Go.RowKit

theorem fmtT_small (t : Tree) : (fmtT t).size ≤ 4096 := by
  unfold fmtT
  by_cases hf : fmtI t = 0
  · rw [if_pos hf]
    unfold fmtI at hf
    by_cases hv : valE t = 0
    · rw [if_pos hv] at hf
      by_cases hl : 4096 < (textB t).size
      · rw [if_pos hl] at hf; cases hf
      · exact Nat.le_of_not_lt hl
    · rw [if_neg hv] at hf; exact absurd hf hv
  · rw [if_neg hf]; exact Nat.zero_le _

/-- A block whose first n cells are bytes. -/
def BytesAt (w : World) (g n : Nat) : Prop := g < w.heap.size ∧ ∀ j, j < n → ∃ x : UInt8, w.cell? ⟨g, j, none⟩ = some (.int .u8 (x.toNat : Int))

theorem BytesAt.kept {w w' : World} {g n b : Nat} (h : BytesAt w g n) (hg : w.grownBy w' (some b)) (hne : g ≠ b) : BytesAt w' g n :=
  ⟨Nat.lt_of_lt_of_le h.1 hg.size, fun j hj => by
    obtain ⟨x, hx⟩ := h.2 j hj
    exact ⟨x, hg.cell hx (fun e => hne (by injection e))⟩⟩

theorem BytesAt.list {w : World} {g n : Nat} (h : BytesAt w g n) : ∃ l : List UInt8, l.length = n ∧ ∀ j (hj : j < l.length), w.cell? ((⟨g, 0, none⟩ : Addr).add j) = some (.int .u8 (l[j].toNat : Int)) := by
  have hc := fun j (hj : j < n) => (h.2 j hj)
  refine ⟨List.ofFn fun j : Fin n => (hc j.1 j.2).choose, by simp, fun j hj => ?_⟩
  have hj' : j < n := by simpa using hj
  rw [List.getElem_ofFn]
  have := (hc j hj').choose_spec
  rw [Addr.add_lit, Nat.zero_add]
  exact this

/-- The bytes of a block are a text again. -/
theorem bytes_back {w : World} {g n cap : Nat} (h : BytesAt w g n) : ∃ s : ByteArray, s.size = n ∧ (convert 38 9 (.slice (some ⟨g, 0, none⟩) n cap)).run Tryd.prog w = .ok (.string s) w := by
  obtain ⟨l, hl, hc⟩ := h.list
  refine ⟨⟨l.toArray⟩, by show l.toArray.size = n; simpa using hl, ?_⟩
  subst hl
  exact run_convert_bytes_back (P := Tryd.prog) w 38 9 5 ⟨g, 0, none⟩ cap l Tryd.underlying38 Tryd.underlying5 Tryd.underlying9 hc

/-- What a text's conversion lays. -/
theorem bytes_laid (w : World) (s : ByteArray) (cap : Nat) : BytesAt (w.alloc (.cells (bytesRow s cap) 5 ((bytesRow s cap).size, (bytesRow s cap).size + 1))) w.heap.size s.size := by
  refine ⟨by simp, fun j hj => ⟨s.data[j]'hj, ?_⟩⟩
  rw [World.cell?_alloc_mark]
  exact bytesRow_at s cap j hj

theorem bytes_thaw (w : World) (s : ByteArray) (cap j : Nat) (hj : j < s.size) : (w.alloc (.cells (bytesRow s cap) 5 ((bytesRow s cap).size, (bytesRow s cap).size + 1))).frozen? ⟨w.heap.size, j, none⟩ = false := by
  rw [World.frozen?_alloc_mark]
  have h1 := bytesRow_at s cap j hj
  rw [Array.getElem?_eq_some_iff] at h1
  obtain ⟨h2, -⟩ := h1
  rw [Bool.and_eq_false_iff]
  left
  simp
  exact h2

/-- One byte is put. -/
theorem BytesAt.put {w : World} {g n m : Nat} {y : Int} (h : BytesAt w g n) (hm : m < n) (hy : 0 ≤ y ∧ y ≤ 255) : BytesAt (w.setCell ⟨g, m, none⟩ (.int .u8 y)) g n := by
  refine ⟨by simpa [World.setCell] using h.1, fun j hj => ?_⟩
  by_cases e : j = m
  · subst e
    obtain ⟨x, hx⟩ := h.2 j hj
    refine ⟨UInt8.ofNat y.toNat, ?_⟩
    rw [World.cell?_setCell_same' _ _ _ (by rw [hx]; rfl), UInt8.toNat_ofNat']
    congr 2
    omega
  · obtain ⟨x, hx⟩ := h.2 j hj
    refine ⟨x, ?_⟩
    rw [World.cell?_setCell_other (w := w) (a := (⟨g, m, none⟩ : Addr)) (b := (⟨g, j, none⟩ : Addr)) (v := .int .u8 y) (fun h => e (by injection h with _ h; exact h.symm))]
    exact hx

/-- The letters of the random text. -/
def wildL : List ByteArray := [⟨#[97]⟩, ⟨#[98, 95, 49]⟩, ⟨#[126]⟩, ⟨#[38]⟩, ⟨#[124]⟩, ⟨#[45, 62]⟩, ⟨#[60, 45, 62]⟩, ⟨#[40]⟩, ⟨#[41]⟩, ⟨#[32]⟩, ⟨#[48]⟩, ⟨#[49]⟩, ⟨#[45]⟩, ⟨#[65]⟩, ⟨#[49, 97]⟩]
theorem wild_short {s : ByteArray} (h : s ∈ wildL) : s.size ≤ 3 := by
  simp only [wildL, List.mem_cons, List.not_mem_nil, or_false] at h
  rcases h with rfl | rfl | rfl | rfl | rfl | rfl | rfl | rfl | rfl | rfl | rfl | rfl | rfl | rfl | rfl <;> decide

/-- A text of at most M bytes. -/
def isS (M : Nat) : Value → World → Prop := fun v _ => ∃ s : ByteArray, v = .string s ∧ s.size ≤ M
/-- A number of at most M. -/
def isN (M : Nat) : Value → World → Prop := fun v _ => ∃ m : Nat, v = .int .i64 (m : Int) ∧ m ≤ M
/-- Seven texts outside block b. -/
def isRow7 (b : Nat) : Value → World → Prop := fun v w => ∃ r : Nat, v = .slice (some ⟨r, 0, none⟩) 7 7 ∧ r ≠ b ∧ r < w.heap.size ∧ ∀ k, k < 7 → ∃ s : ByteArray, w.cell? ⟨r, k, none⟩ = some (.string s) ∧ s.size ≤ 5000
theorem isRow7_kept {b : Nat} {v : Value} {w w' : World} (hg : w.grownBy w' (some b)) (h : isRow7 b v w) : isRow7 b v w' := by
  obtain ⟨r, h1, h2, h3, h4⟩ := h
  refine ⟨r, h1, h2, Nat.lt_of_lt_of_le h3 hg.size, fun k hk => ?_⟩
  obtain ⟨s, hs, hz⟩ := h4 k hk
  exact ⟨s, hg.cell hs (fun e => h2 (by injection e)), hz⟩
theorem row7 {b : Nat} {w : World} {s0 s1 s2 s3 s4 s5 s6 : ByteArray} (h0 : s0.size ≤ 5000) (h1 : s1.size ≤ 5000) (h2 : s2.size ≤ 5000) (h3 : s3.size ≤ 5000) (h4 : s4.size ≤ 5000) (h5 : s5.size ≤ 5000) (h6 : s6.size ≤ 5000) (hb : b < w.heap.size) :
    isRow7 b (.slice (some ⟨w.heap.size, 0, none⟩) 7 7) (w.alloc (.cells #[.string s0, .string s1, .string s2, .string s3, .string s4, .string s5, .string s6] 9)) := by
  have hK := heap_alloc_new w (.cells #[.string s0, .string s1, .string s2, .string s3, .string s4, .string s5, .string s6] 9)
  have hl := lt_of_block hK
  generalize (w.alloc (.cells #[.string s0, .string s1, .string s2, .string s3, .string s4, .string s5, .string s6] 9)) = w' at *
  refine ⟨_, rfl, by omega, hl, fun k hk => ?_⟩
  rcases (by omega : k = 0 ∨ k = 1 ∨ k = 2 ∨ k = 3 ∨ k = 4 ∨ k = 5 ∨ k = 6) with rfl | rfl | rfl | rfl | rfl | rfl | rfl
  · exact ⟨s0, by simp [World.cell?, hK], h0⟩
  · exact ⟨s1, by simp [World.cell?, hK], h1⟩
  · exact ⟨s2, by simp [World.cell?, hK], h2⟩
  · exact ⟨s3, by simp [World.cell?, hK], h3⟩
  · exact ⟨s4, by simp [World.cell?, hK], h4⟩
  · exact ⟨s5, by simp [World.cell?, hK], h5⟩
  · exact ⟨s6, by simp [World.cell?, hK], h6⟩

theorem sn_rel {b M : Nat} {zs : List Int} {W w : World} (hM : M ≤ 4096) (hC : W.grownBy w (some b) ∧ ∃ q, SrcAt w b b zs q) :
    Calls Tryd.prog 20 #[.pointer (some ⟨b, 0, none⟩), .int .i64 ((M : Int) + 1)] w fun e w'' => ∃ u, e = .returned u ∧ (W.grownBy w'' (some b) ∧ ∃ q, SrcAt w'' b b zs q) ∧ w.grownBy w'' (some b) ∧ isN M u w'' := by
  obtain ⟨hC1, q, hq⟩ := hC
  refine (sn_nat _ (by omega) (by omega) b b zs q w hq).mono ?_
  rintro e w'' ⟨m, q', rfl, hm, hs, hg⟩
  exact ⟨_, rfl, ⟨only_trans hC1 hg, q', hs⟩, hg, m, rfl, by omega⟩

set_option maxRecDepth 100000 in
set_option maxHeartbeats 8000000 in
theorem fpars_walk (tx : ByteArray) (v : Value) (zs : List Int) (n y : Int) (w : World) (hx : tx.size ≤ maxLen) (hz : IntsAt w w.heap.size v zs) (hn : I64 n) (hy : 0 ≤ y ∧ y ≤ 255) (hsg : SignsAt w) : Calls Tryd.prog 4 #[.string tx, v, .int .i64 n, .int .u8 y] w fun e w' => e = .returned (.bool true) ∧ Below w.heap.size w w' := by
  have HSG := hidIt hsg
  have HZ := hidIt hz
  have HX := hidIt hx
  clear hsg hz hx
  go_enter Tryd.func4, Tryd.ntmps4
  by_cases hlong : 300 < tx.size
  · have hl : (300 : Int) < (tx.size : Int) := by omega
    go_wp2_with fail
    go_ret
    exact ⟨rfl, Below.refl _ _⟩
  have hl : ¬ (300 : Int) < (tx.size : Int) := by omega
  go_wp2_with fail
  refine (new_any v zs w.heap.size w HZ.out (Nat.le_refl _)).mono ?_
  rintro e w1 ⟨zs1, rfl, hs1, o1, hw1⟩
  have HS1 := hidIt hs1
  have hb1 : Below w.heap.size w w1 := by rw [hw1]; exact Grows.alloc _ _
  have HB1 := hidIt hb1
  have HSG1 := hidIt (HSG.out.go hb1)
  have hbl := hs1.lt
  clear hs1 hb1 HZ hw1
  have hbw : w.heap.size ≤ w.heap.size := Nat.le_refl _
  go_wp2_with fail
  refine (sform_any 4 (by omega) (by omega) 4 (by omega) _ _ zs1 0 w1 HS1.out).mono ?_
  rintro e w2 ⟨f, fo, fs, fa, fm, fc, q2, rfl, hf1, hfd, hf2, hs2, hg2⟩
  have HNF : Hid (f.nodes ≤ 1000000000) := Nat.le_trans (gen_nodes f 4 hf1 hfd) (by decide)
  have HS2 := hidIt hs2
  have HB2 := hidIt (only_trans (only_of_below HB1.out (some w.heap.size)) hg2)
  have HF2 := hidIt hf2.free
  clear hf1 hfd hf2 hs2 hg2 HS1 HB1 HSG1 hbl
  go_wp2_with fail
  refine (qformat_any f _ _ HF2.out HNF.out).mono ?_
  rintro e w3 ⟨rfl, hb3⟩
  have HS3 := hidIt (HS2.out.grow (only_of_below hb3 none))
  have HB3 := hidIt (only_trans HB2.out (only_of_below hb3 _))
  have HSM := hidIt (fmtT_small f)
  clear hb3 HS2 HB2 HF2 HNF
  generalize fmtT f = g at *
  generalize fmtI f = ge at *
  go_wp2_with fail
  obtain ⟨cap, w4, hcv, hBY, hth, hgr⟩ : ∃ (cap : Nat) (w4 : World), (convert 9 38 (.string g)).run Tryd.prog w3 = .ok (.slice (some ⟨w3.heap.size, 0, none⟩) g.size cap) w4 ∧ BytesAt w4 w3.heap.size g.size ∧
      (∀ j, j < g.size → w4.frozen? ⟨w3.heap.size, j, none⟩ = false) ∧ w3.grownBy w4 none :=
    ⟨_, _, run_bytes_of_string (P := Tryd.prog) w3 9 38 5 g Tryd.underlying9 Tryd.underlying38 Tryd.underlying5, bytes_laid w3.drew g _, fun j hj => bytes_thaw w3.drew g _ j hj, only_alloc (only_of_below (Below.refl _ _).drew none) _⟩
  have HS4 := hidIt (HS3.out.grow hgr)
  have HB4 := hidIt (only_trans HB3.out ⟨hgr.os, hgr.tape, hgr.output, hgr.size, fun i hi _ => hgr.block i hi (fun e => by cases e)⟩)
  have hgb : w.heap.size < w3.heap.size := HS3.out.lt
  have HBY := hidIt hBY
  have HTH := hidIt hth
  clear hgr hBY hth HS3 HB3
  rw [hcv]
  clear hcv
  rcases Nat.eq_zero_or_pos g.size with h0 | h0
  rotate_left
  have h0' : (0 : Int) < (g.size : Int) := by omega
  have h0d : decide ((0 : Int) < (g.size : Int)) = true := decide_eq_true h0'
  go_wp2_with fail
  have hgm : g.size ≤ 4096 := HSM.out
  have hmd := modI_bd n g.size (by omega)
  have hn' := hn
  unfold I64 at hn'
  refine (mod_any n g.size (by omega) (by omega) (by omega) (by omega) w4).mono ?_
  rintro e w5' ⟨rfl, rfl⟩
  obtain ⟨m, hm⟩ : ∃ m : Nat, modI n g.size = (m : Int) := ⟨(modI n g.size).toNat, by omega⟩
  rw [hm] at hmd ⊢
  clear hm hn'
  have hmlt : m < g.size := by omega
  have hmi : (m : Int) < (g.size : Int) := by omega
  have hm0 : (0 : Int) ≤ (m : Int) := by omega
  obtain ⟨xb, hxb⟩ := HBY.out.2 m hmlt
  have hxf := HTH.out m hmlt
  have hgl := HBY.out.1
  go_wp2_with fail
  have hgr5 : w4.grownBy (w4.setCell ⟨w3.heap.size, m, none⟩ (.int .u8 y)) (some w3.heap.size) := only_setCell (only_refl _ _) (.inl rfl) _
  have HS5 := hidIt (HS4.out.setCell (⟨w3.heap.size, m, none⟩ : Addr) (.int .u8 y) (Nat.le_of_lt hgb) (Nat.ne_of_gt hgb))
  have HB5 := hidIt (only_setCell (p := ⟨w3.heap.size, m, none⟩) HB4.out (.inr (Nat.le_of_lt hgb)) (.int .u8 y))
  have HBY5 := hidIt (HBY.out.put hmlt hy)
  have hnb := hgm
  clear hgr5 hxb hxf hgl hmd hgm hmi hm0
  generalize (w4.setCell ⟨w3.heap.size, m, none⟩ (.int .u8 y)) = w5 at *
  clear hmlt h0' h0d
  rotate_left
  have HS5 := HS4
  have HB5 := HB4
  have HBY5 := HBY
  rw [h0] at HBY5
  have hnb : 0 ≤ 4096 := Nat.zero_le _
  generalize hW5 : w4 = w5 at *
  clear hW5
  all_goals (
  clear h0 HTH HBY HS4 HB4
  generalize w3.heap.size = gb at *
  refine (sn_nat 14 (by omega) (by omega) _ _ zs1 _ w5 HS5.out).mono ?_
  rintro e w6 ⟨k0, q6, rfl, hk0, hs6, hg6⟩
  have HS6 := hidIt hs6
  have HB6 := hidIt (only_trans HB5.out hg6)
  have HBY6 := hidIt (HBY5.out.kept hg6 (Nat.ne_of_gt hgb))
  clear hs6 hg6 HS5 HB5 HBY5
  have hk0n : k0 < 14 := by omega
  clear hk0
  go_wp2_with fail
  have hbl6 := HS6.out.lt
  go_loopw [13, 14] (fun x i wr => ∃ (k : Nat) (s : ByteArray) (q : Nat), s.size + 3 * k ≤ 42 ∧ x = .string s ∧ i = .int .i64 k ∧ Hid (SrcAt wr w.heap.size w.heap.size zs1 q) ∧ Hid (w6.grownBy wr (some w.heap.size))) (fun _ i _ => (intOf i).toNat)
  case atStart => exact ⟨k0, ⟨#[]⟩, q6, (by show 0 + 3 * k0 ≤ 42; omega), rfl, rfl, HS6, only_refl _ _⟩
  case round =>
    obtain ⟨k, sw, q, hk, rfl, rfl, HSr, HGr⟩ := hrel
    cases k with
    | succ j =>
      have hj1 : (0 : Int) < ((j + 1 : Nat) : Int) := by omega
      have hj0 : (j + 1 : Nat) ≤ 14 := by omega
      have hrb := HSr.out.lt
      go_wp2_with fail
      refine (stext_any wr.heap.size wildL (by decide) (by decide) _ _ zs1 q _ (HSr.out.alloc _) (heap_alloc_new wr _) (by omega)).mono ?_
      rintro e w7 ⟨u, q7, rfl, hmem, hs7, hg7⟩
      have hus := wild_short hmem
      have HS7 := hidIt hs7
      have HG7 := hidIt (only_trans HGr.out (only_trans (only_alloc (only_refl _ _) _) hg7))
      have hcat : ¬ 9223372036854775807 < sw.size + u.size := by omega
      clear hmem hs7 hg7 HSr HGr hrb
      go_wp2_with fail
      go_roundw
      case rel => exact ⟨j, sw ++ u, q7, by rw [ByteArray.size_append]; omega, rfl, by go_num, HS7, HG7⟩
      case measure => simp [intOf]
    | zero =>
      have HWS : Hid (sw.size ≤ 42) := (by omega : sw.size ≤ 42)
      have HW7 := hidIt (only_trans HB6.out HGr.out)
      have HBYr := hidIt (HBY6.out.kept HGr.out (Nat.ne_of_gt hgb))
      clear hk HB6 HBY6 HS6 HGr hbl6 hk0n
      go_wp2_with fail
      have hrb := HSr.out.lt
      have hgz : g.size ≤ 4096 := HSM.out
      have hwz : sw.size ≤ 42 := HWS.out
      have l1 : (⟨#[32, 40]⟩ : ByteArray).size = 2 := rfl
      have l2 : (⟨#[41, 32]⟩ : ByteArray).size = 2 := rfl
      have c1 : ¬ 9223372036854775807 < 2 + g.size := by omega
      have c2 : ¬ 9223372036854775807 < 2 + g.size + 2 := by omega
      have c2' : ¬ 9223372036854775807 < (⟨#[32, 40]⟩ ++ g : ByteArray).size + 2 := by rw [ByteArray.size_append]; omega
      have c3 : ¬ 9223372036854775807 < g.size + sw.size := by omega
      clear l1 l2
      refine wp_region_rel (fun wx => wr.grownBy wx (some w.heap.size) ∧ ∃ q, SrcAt wx w.heap.size w.heap.size zs1 q) (fun x y => x.grownBy y (some w.heap.size)) (relTab [(60, isS 4096), (70, isN g.size), (75, isRow7 w.heap.size)]) (by kernel_rfl) (by kernel_rfl) (by kernel_rfl) (fun s r hs v x y hx hy hg hr => ?_) ⟨only_of_below (Below.refl _ _).drew _, _, HSr.out.grow (only_of_below (Below.refl _ _).drew none)⟩ ?_
      · unfold relTab at hs
        split at hs
        · injection hs with hs
          subst hs
          exact hr
        unfold relTab at hs
        split at hs
        · injection hs with hs
          subst hs
          exact hr
        unfold relTab at hs
        split at hs
        · injection hs with hs
          subst hs
          exact isRow7_kept hg hr
        · cases hs
      repeat (
        refine' walkR_plain (by kernel_rfl) rfl rfl (fun wx hC hL => ?_) ?_
        rotate_left
        · (go_simp; first | done | exact ⟨rfl, rfl⟩)
        simp only [Act.put, List.setIfInBounds_toArray, List.set_cons_zero, List.set_cons_succ])
      refine walkR_rel (by kernel_rfl) rfl rfl (of_decide_eq_true (by kernel_rfl)) (fun wx hC hL => ?_) (fun v hv => ?_)
      · obtain ⟨s60, hz60, hr60⟩ := bytes_back (HBYr.out.kept hC.1 (Nat.ne_of_gt hgb)) (cap := cap)
        go_simp
        exact ⟨hC, only_refl _ _, s60, rfl, by omega⟩
      obtain ⟨_, _, s60, rfl, hz60⟩ := hv
      simp only [Act.put, List.setIfInBounds_toArray, List.set_cons_zero, List.set_cons_succ]
      repeat (
        refine' walkR_plain (by kernel_rfl) rfl rfl (fun wx hC hL => ?_) ?_
        rotate_left
        · (go_simp; first | done | exact ⟨rfl, rfl⟩)
        simp only [Act.put, List.setIfInBounds_toArray, List.set_cons_zero, List.set_cons_succ])
      refine walkR_rel (by kernel_rfl) rfl rfl (of_decide_eq_true (by kernel_rfl)) (fun wx hC hL => ?_) (fun v hv => ?_)
      · go_simp
        have hwr : IntKind.i64.wrap ((g.size : Int) + 1) = (g.size : Int) + 1 := IntWalk.i64_in _ (by omega)
        have hsn := sn_rel hgz hC
        first | exact hsn | (rw [hwr]; exact hsn) | (simp only [hwr]; exact hsn)
      obtain ⟨_, _, m70, rfl, hm70⟩ := hv
      have hmi : (m70 : Int) ≤ (g.size : Int) := by omega
      have hmn : (0 : Int) ≤ (m70 : Int) := by omega
      simp only [Act.put, List.setIfInBounds_toArray, List.set_cons_zero, List.set_cons_succ]
      repeat (
        refine' walkR_plain (by kernel_rfl) rfl rfl (fun wx hC hL => ?_) ?_
        rotate_left
        · (go_simp; first | done | exact ⟨rfl, rfl⟩)
        simp only [Act.put, List.setIfInBounds_toArray, List.set_cons_zero, List.set_cons_succ])
      refine walkR_rel (by kernel_rfl) rfl rfl (of_decide_eq_true (by kernel_rfl)) (fun wx hC hL => ?_) (fun v hv => ?_)
      · go_simp
        have hcz : (⟨#[32, 40]⟩ ++ g ++ ⟨#[41, 32]⟩ : ByteArray).size ≤ 5000 := by
          rw [ByteArray.size_append, ByteArray.size_append]
          have l1 : (⟨#[32, 40]⟩ : ByteArray).size = 2 := rfl
          have l2 : (⟨#[41, 32]⟩ : ByteArray).size = 2 := rfl
          omega
        have hez : (g.extract 0 m70).size ≤ 5000 := by rw [ByteArray.size_extract]; omega
        have haz : (g ++ sw).size ≤ 5000 := by rw [ByteArray.size_append]; omega
        exact ⟨⟨only_alloc hC.1 _, hC.2.imp fun _ h => h.alloc _⟩, only_alloc (only_refl _ _) _, row7 (by omega) (by omega) (by omega) hcz (by omega) hez haz (Nat.lt_of_lt_of_le hrb hC.1.size)⟩
      obtain ⟨_, _, r, rfl, hrb2, -, -⟩ := hv
      simp only [Act.put, List.setIfInBounds_toArray, List.set_cons_zero, List.set_cons_succ]
      repeat (
        refine' walkR_plain (by kernel_rfl) rfl rfl (fun wx hC hL => ?_) ?_
        rotate_left
        · (go_simp; first | done | exact ⟨rfl, rfl⟩)
        simp only [Act.put, List.setIfInBounds_toArray, List.set_cons_zero, List.set_cons_succ])
      refine fun w8 hC8 hK => ?_
      have h75 : isRow7 w.heap.size (.slice (some ⟨r, 0, none⟩) 7 7) w8 := hK 75 (by simp [more]) _ rfl
      obtain ⟨r', er, -, hrl, hrow⟩ := h75
      injection er with er
      injection er with er
      injection er with er
      subst er
      have HROW := hidIt hrow
      have HB8 := hidIt (below_of_only (only_trans HW7.out hC8.1) (Nat.le_refl _))
      clear hK hC8 hrow HW7 HBYr HSr c1 c2 c2' c3 hrb hgz hwz hm70 hmi hmn HWS hz60 HSM
      go_wp2_with fail
      go_loopw [16, 17, 18, 19, 20, 21, 22, 77] (fun _ _ _ _ _ _ _ i wq => ∃ k : Nat, k ≤ 7 ∧ i = .int .i64 k ∧ Hid (Below w8.heap.size w8 wq)) (fun _ _ _ _ _ _ _ i _ => 7 - (intOf i).toNat)
      case atStart => exact ⟨0, by omega, rfl, Below.refl _ _⟩
      case round =>
        obtain ⟨k, hk, rfl, hbel⟩ := hrel
        have HBw := hidIt (HB8.out.trans (Below.mono hbel.out HB8.out.size))
        have HSGw := hidIt (HSG.out.go HBw.out)
        by_cases hlt : k < 7
        · obtain ⟨u, c0', hus⟩ := HROW.out k hlt
          have c0 := (hbel.out.cell (p := ⟨r, k, none⟩) hrl).trans c0'
          have hlt0 : (k : Int) < 7 := by omega
          have hk0 : (0 : Int) ≤ (k : Int) := by omega
          have HUS : Hid (u.size ≤ maxLen) := (by unfold maxLen; omega : u.size ≤ maxLen)
          clear c0' hus
          go_wp2_with fail
          refine (parse_any u HUS.out _ HSGw.out).mono ?_
          rintro e wa ⟨o, nm, a, nn, c, rfl, hf6, hb6⟩
          have hgr := Grows.alloc wa (.cells #[.int .i64 o, .string nm, .slice a nn c] 24)
          have h56 : Below w8.heap.size w8 (wa.alloc (.cells #[.int .i64 o, .string nm, .slice a nn c] 24)) := (hbel.out.trans (Below.mono hb6 hbel.out.size)).alloc (hbel.out.trans (Below.mono hb6 hbel.out.size)).size _
          have HB7 := hidIt h56
          have HG7 := hidIt (hf6.free.go hgr)
          have HD7 := hidIt (heap_alloc_new wa (.cells #[.int .i64 o, .string nm, .slice a nn c] 24))
          clear hf6 hb6 hgr h56 c0
          go_wp2_with fail
          generalize (wa.alloc (.cells #[.int .i64 o, .string nm, .slice a nn c] 24)) = wb at *
          generalize wa.heap.size = pb at *
          refine (qparse_any u HUS.out wb).mono ?_
          rintro e wc ⟨o2, nm2, a2, nn2, c2, rfl, hf9, hb9⟩
          have hgr := Grows.alloc wc (.cells #[.int .i64 o2, .string nm2, .slice a2 nn2 c2] 24)
          have hbd : Below wb.heap.size wb (wc.alloc (.cells #[.int .i64 o2, .string nm2, .slice a2 nn2 c2] 24)) := hb9.alloc hb9.size _
          have HB10 := hidIt (HB7.out.trans (Below.mono hbd HB7.out.size))
          have HG10 := hidIt (HG7.out.go hbd)
          have HD10 := hidIt (blk_kept HD7.out hbd)
          have HK10 := hidIt (hf9.free.go hgr)
          have HE10 := hidIt (heap_alloc_new wc (.cells #[.int .i64 o2, .string nm2, .slice a2 nn2 c2] 24))
          clear hf9 hb9 hgr hbd HB7 HG7 HD7
          generalize (parseT u).2.2 = E at *
          generalize (parseT u).2.1 = N at *
          generalize (parseT u).1 = T at *
          obtain ⟨f0, f1, f2⟩ := cell_of3 HD10.out
          have fl := lt_of_block HD10.out
          go_wp2_with fail
          refine (qsameP_any T T _ _ _ HG10.out HK10.out).mono ?_
          rintro e wd ⟨rfl, hbd⟩
          rw [sameP_true rfl]
          have HB11 := hidIt (HB10.out.trans (Below.mono hbd HB10.out.size))
          clear hbd f0 f1 f2 fl
          go_wp2_with fail
          go_roundw
          case rel => exact ⟨k + 1, by omega, by go_num, HB11.out⟩
          case measure => simp [intOf]; omega
        · obtain rfl : k = 7 := by omega
          go_wp2_with fail
          refine (awake2_any _ HSGw.out).mono ?_
          rintro e wz ⟨rfl, hbz⟩
          have HBz := hidIt (HBw.out.trans (hbz.mono HBw.out.size))
          clear hbz
          go_wp2_with fail
          go_ret
          exact ⟨rfl, HBz.out⟩
  )

end Go.Proofs.YtilkpjcbmllgmaaDoor

namespace Go.Proofs.YtilkpjcbmllgmaaDoor
set_option linter.unusedVariables false
set_option linter.unusedSimpArgs false
open Go.ChangeShapes Go.WideShapes Go.ChangeAt Go.RowKit

theorem ownKn : ownKnob Tryd.prog.godebug = none := by kernel_rfl
theorem laidOutF : laidOutB Tryd.prog = true := by kernel_rfl

/-- A list of ints that came in: nil, or a row of as many cells as it may grow to. -/
def IsRow (w : World) (a : Option Addr) (len cap : Nat) (zs : List Int) : Prop :=
  (a = none ∧ len = 0 ∧ cap = 0 ∧ zs = []) ∨
  ∃ x, a = some x ∧ len ≤ cap ∧ cap ≤ maxLen ∧ zs.length = cap ∧ (∀ i, i < zs.length → w.cell? (x.add i) = some (.int .i64 (zs.getD i 0))) ∧ ∀ n ∈ zs, (Lit.int .i64 n).wf = true

theorem spot_none {x : Addr} {w : World} {v : Value} (h : w.cell? (x.add 0) = some v) : x = ⟨x.block, x.off, none⟩ := by
  obtain ⟨b, off, spot⟩ := x
  cases spot with
  | none => rfl
  | some s =>
    exfalso
    unfold World.cell? at h
    unfold Addr.add at h
    split at h
    · split at h <;> simp_all
    · cases h

theorem add_plain (b off i : Nat) : (⟨b, off, none⟩ : Addr).add i = ⟨b, off + i, none⟩ := by unfold Addr.add; split <;> simp_all

theorem ints_of_row {w : World} {a : Option Addr} {len cap : Nat} {zs : List Int} (h : IsRow w a len cap zs) : IntsAt w w.heap.size (.slice a len cap) (zs.take len) := by
  rcases h with ⟨rfl, rfl, rfl, rfl⟩ | ⟨x, rfl, h1, h2, h3, h4, h5⟩
  · exact .inl ⟨rfl, rfl⟩
  · have hl : (zs.take len).length = len := by rw [List.length_take]; omega
    refine .inr ⟨x, cap, by rw [hl], by omega, h2, fun i hi => ?_, fun i => ?_⟩
    · rw [hl] at hi
      have hc := h4 i (by omega)
      have e1 := spot_none (h4 0 (by omega))
      rw [e1, add_plain] at hc
      exact ⟨x.block, x.off, e1, World.block_lt_of_cell? w ⟨x.block, x.off + i, none⟩ hc, by rw [getD_take, if_pos hi]; exact hc⟩
    · rw [getD_take]
      split
      · by_cases hi : i < zs.length
        · have hm : zs.getD i 0 ∈ zs := by
            rw [List.getD_eq_getElem?_getD, List.getElem?_eq_getElem hi]
            exact List.getElem_mem hi
          have hw := h5 _ hm
          simp only [Lit.wf, Bool.and_eq_true, decide_eq_true_eq] at hw
          exact hw
        · rw [List.getD_eq_getElem?_getD, List.getElem?_eq_none (by omega)]
          simp
      · omega
end Go.Proofs.YtilkpjcbmllgmaaDoor

namespace Go.Proofs.YtilkpjcbmllgmaaDoor
set_option linter.unusedVariables false
set_option linter.unusedSimpArgs false
open Go.ChangeShapes Go.WideShapes Go.ChangeAt Go.RowKit

theorem ownKn' : ownKnob Tryd.prog.godebug = none := by kernel_rfl
theorem laidOutF' : laidOutB Tryd.prog = true := by kernel_rfl
theorem gSigns : Tryd.prog.globalNamed "deliberation/formula.signs" = some 0 := by kernel_rfl
theorem gSignsType : (Tryd.prog.globals[0]?).map (·.type) = some 88 := by kernel_rfl
theorem cellsArr : Tryd.prog.cellsOf 88 = 7 := by kernel_rfl
theorem cellsStr : Tryd.prog.cellsOf 9 = 1 := by kernel_rfl

/-- An array of strings that reads as these holds these. -/
theorem cells_of_texts {H : Type} {enc : TypeId × Value → H} {P : Program} {w : World} {base : Nat} {sp : Nat → Bool} {held : Bool} {fuel : Nat} {t e : TypeId} {n : Nat} {cs : List Value} {zs : List (List UInt8)} {p : List MemPlace}
    (ht : P.underlying t = some (.array n e)) (he : P.underlying e = some .string) (hce : P.cellsOf e = 1) (hct : P.cellsOf t = n)
    (h : DataW.trod enc P w base sp held fuel t cs = some (.agg (zs.map fun z => .lit (.string z)), p)) : cs = zs.map fun z => Value.string ⟨z.toArray⟩ := by
  obtain ⟨xs, m, rfl, hx, hl, hn, hel⟩ := DataW.trod_array ht h
  have hxs : xs.map (·.1) = zs.map fun z => (DataW.lit (.string z) : DataW H) := by
    have := congrArg Prod.fst hx
    simpa using this.symm
  have hzl : zs.length = n := by
    have := congrArg List.length hxs
    simp at this
    omega
  apply List.ext_getElem?
  intro i
  by_cases hi : i < n
  · have hx2 : i < xs.length := by omega
    have hf := hel i hi
    rw [List.getElem?_eq_getElem hx2, hce, Nat.mul_one] at hf
    obtain ⟨s, hc, hsx, -⟩ := DataW.trod_string he hf
    have h1 : cs[i]? = some (.string s) := by
      have := congrArg (·[0]?) hc
      simpa [List.getElem?_take, List.getElem?_drop] using this
    have h2 : (xs.map (·.1))[i]? = some (DataW.lit (.string s.data.toList) : DataW H) := by
      rw [List.getElem?_map, List.getElem?_eq_getElem hx2, hsx]
      rfl
    rw [hxs] at h2
    simp only [List.getElem?_map, Option.map_eq_some_iff, DataW.lit.injEq, Lit.string.injEq] at h2
    obtain ⟨z', hz', e2⟩ := h2
    rw [h1, List.getElem?_map, hz', e2]
    rfl
  · rw [List.getElem?_eq_none (by omega), List.getElem?_eq_none (by simp; omega)]

/-- What the row's list gives. -/
theorem signs_of_laid {W : World} (h : laidMetH Tryd.prog [("deliberation/formula.signs", Rows.laid_deliberation_formula_signs)] W) : SignsAt W := by
  obtain ⟨ps, ⟨g', t', cs, fuel, p, q, hg', ht', hvar, hd, _, _⟩, _⟩ := h
  obtain rfl := Option.some.inj (gSigns.symm.trans hg')
  obtain rfl := Option.some.inj (gSignsType.symm.trans ht')
  have hc := cells_of_texts (zs := sgn) Tryd.underlying88 Tryd.underlying9 cellsStr cellsArr hd
  have hcs : cs = #[.string ⟨#[60, 45, 62]⟩, .string ⟨#[45, 62]⟩, .string ⟨#[126]⟩, .string ⟨#[38]⟩, .string ⟨#[124]⟩, .string ⟨#[40]⟩, .string ⟨#[41]⟩] := by
    apply Array.ext'
    rw [hc]
    rfl
  subst hcs
  have hcell := World.var?_cell gSigns hvar
  have h0 : W.cell? ⟨0, 0, none⟩ = some (.string ⟨#[60, 45, 62]⟩) := hcell 0
  exact ⟨World.block_lt_of_cell? W ⟨0, 0, none⟩ h0, h0, hcell 1, hcell 2, hcell 3, hcell 4, hcell 5, hcell 6⟩

/-- A world for the witness: the settled one, the table holding what its initialiser lays. -/
noncomputable def laidWorld (os : Os) : World :=
  { World.holding Tryd.prog os ⟨#[], #[], []⟩ with heap := (World.holding Tryd.prog os ⟨#[], #[], []⟩).heap.modify 0 fun
      | .cells _ t frozen => .cells #[.string ⟨#[60, 45, 62]⟩, .string ⟨#[45, 62]⟩, .string ⟨#[126]⟩, .string ⟨#[38]⟩, .string ⟨#[124]⟩, .string ⟨#[40]⟩, .string ⟨#[41]⟩] t frozen
      | o => o }
end Go.Proofs.YtilkpjcbmllgmaaDoor
