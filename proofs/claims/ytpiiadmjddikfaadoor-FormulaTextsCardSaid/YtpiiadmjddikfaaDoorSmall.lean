/- keep.Nodes, Levels, short and SmallFormula, at formulas of any size. -/
import Derived.Test.YtpiiadmjddikfaaDoorKinds
import Derived.Test.YtpiiadmjddikfaaDoorIn
import Derived.Test.YtpiiadmjddikfaaDoorFText
namespace Go.Proofs.YtpiiadmjddikfaaDoor
set_option linter.unusedVariables false
set_option linter.unusedSimpArgs false
open Go Go.RowKit

/-- Is the name short? -/
def shortB (t : Tree) : Bool := decide (t.name.size ≤ 100)

set_option maxRecDepth 100000 in
set_option maxHeartbeats 1000000 in
theorem knodes_any : ∀ (t : Tree) (m : Nat) (v : Value) (w : World), FormAt w none v t → m ≤ 1000000 →
    Calls Tryd.prog 28 #[v, .int .i64 (m : Int)] w fun e w' => e = .returned (.int .i64 ((min t.nodes (m + 1) : Nat) : Int)) ∧ Below w.heap.size w w' := by
  refine Tree.ind fun op name ts ih m v w hv hm1 => ?_
  obtain ⟨a, cap, b, off, rfl, hop, hname, hlen, hcap, -, -⟩ := hv.form
  have HV := hidIt hv.forms
  simp only [Tree.op_node, Tree.name_node, Tree.args_node] at *
  have HN : Hid ((Tree.node op name ts).nodes = 1 + nodesL ts) := by show _ = _; simp [Tree.nodes]
  have IH := hidIt ih
  unfold maxLen at hcap
  clear ih hv
  go_enter Tryd.func28, Tryd.ntmps28
  go_wp2_with fail
  have hb0 : Below w.heap.size w (w.alloc (.cells #[.int .i64 op, .string name, .slice a ts.length cap] 24)) := (Below.refl _ _).alloc (Nat.le_refl _) _
  have HB0 := hidIt hb0
  have HX : Hid ((w.alloc (.cells #[.int .i64 op, .string name, .slice a ts.length cap] 24)).heap[w.heap.size]? = some (.cells #[.int .i64 op, .string name, .slice a ts.length cap] 24 (0, 0))) := heap_alloc_new w _
  clear hb0
  generalize (w.alloc (.cells #[.int .i64 op, .string name, .slice a ts.length cap] 24)) = W at *
  go_loopw [5, 6, 10] (fun t _ i wr => ∃ k : Nat, k ≤ ts.length ∧ i = .int .i64 k ∧ t = .int .i64 ((min (1 + nodesL (ts.take k)) (m + 1) : Nat) : Int) ∧ Hid (Below W.heap.size W wr)) (fun _ _ i _ => ts.length - (intOf i).toNat)
  case atStart => exact ⟨0, Nat.zero_le _, rfl, by simp [nodesL], Below.refl _ _⟩
  case round =>
    obtain ⟨k, hk, rfl, rfl, hbel⟩ := hrel
    have HBw := hidIt (HB0.out.trans (hbel.out.mono HB0.out.size))
    have kX := blk_kept HX.out hbel.out
    obtain ⟨x0, x1, x2⟩ := cell_of3 kX
    have hlx := lt_of_block kX
    clear kX
    by_cases hlt : k < ts.length
    · obtain ⟨b', off', a', c', rfl, c0, c1, c2, hf⟩ := (HV.out.go HBw.out).at k hlt
      have HF := hidIt hf
      have HS := hidIt (nodesL_take ts k hlt)
      have HS2 := hidIt (nodesL_take_le ts k)
      have hm : ts[k] ∈ ts := List.getElem_mem hlt
      clear hf
      generalize ts[k] = t at *
      have hlt0 : (k : Int) < (ts.length : Int) := by omega
      have hk0 : (0 : Int) ≤ (k : Int) := by omega
      by_cases hbig : m < 1 + nodesL (ts.take k)
      · have hc : min (1 + nodesL (ts.take k)) (m + 1) = m + 1 := by omega
        have HE : Hid (min (Tree.node op name ts).nodes (m + 1) = m + 1) := by show _ = _; rw [HN.out]; have := HS2.out; omega
        rw [hc]
        have hgt : (m : Int) < ((m + 1 : Nat) : Int) := by omega
        clear hc hbig
        go_wp2_with fail
        go_ret
        exact ⟨ret_int (by rw [HE.out]), HBw.out⟩
      · have hc : min (1 + nodesL (ts.take k)) (m + 1) = 1 + nodesL (ts.take k) := by omega
        rw [hc]
        obtain ⟨z, hz⟩ : ∃ z, z = 1 + nodesL (ts.take k) := ⟨_, rfl⟩
        have HZ := hidIt hz
        rw [← hz]
        have hzm : z ≤ m := by omega
        have hgt : decide ((m : Int) < (z : Int)) = false := by simp; omega
        have hsub : wrap64 ((m : Int) - (z : Int)) = (m : Int) - (z : Int) := by unfold wrap64; omega
        have HIH := hidIt (fun v w h => IH.out t hm (m - z) v w h (by omega))
        rw [show ((m - z : Nat) : Int) = (m : Int) - (z : Int) by omega] at HIH
        have HST : Hid (min (1 + nodesL (ts.take (k + 1))) (m + 1) = z + min t.nodes (m - z + 1)) := by show _ = _; rw [HS.out, HZ.out]; omega
        have hle : min t.nodes (m - z + 1) ≤ 1000001 := by omega
        generalize min t.nodes (m - z + 1) = y at *
        clear hc hbig hz
        go_wp2_with fail
        refine (HIH.out _ _ HF.out).mono ?_
        rintro e w5 ⟨rfl, h5⟩
        have HB5 : Hid (Below W.heap.size W w5) := hbel.out.trans (Below.mono h5 hbel.out.size)
        clear h5
        go_wp2_with fail
        go_roundw
        case rel => exact ⟨k + 1, by omega, by go_num, by rw [HST.out]; go_num, HB5.out⟩
        case measure => simp [intOf]; omega
    · go_wp2_with fail
      go_ret
      exact ⟨ret_int (by rw [HN.out, List.take_of_length_le (by omega)]), HBw.out⟩

set_option maxRecDepth 100000 in
set_option maxHeartbeats 1000000 in
theorem klevels_any : ∀ (t : Tree) (m : Nat) (q : Int) (v : Value) (w : World), FormAt w none v t → m ≤ 1000000 → q + 1 = (m : Int) →
    Calls Tryd.prog 29 #[v, .int .i64 q] w fun e w' => e = .returned (.int .i64 ((min t.depth m : Nat) : Int)) ∧ Below w.heap.size w w' := by
  refine Tree.ind fun op name ts ih m q v w hv hm1 hq => ?_
  obtain ⟨a, cap, b, off, rfl, hop, hname, hlen, hcap, -, -⟩ := hv.form
  have HV := hidIt hv.forms
  simp only [Tree.op_node, Tree.name_node, Tree.args_node] at *
  have HD : Hid ((Tree.node op name ts).depth = depthL ts) := by show _ = _; simp [Tree.depth]
  have IH := hidIt ih
  unfold maxLen at hcap
  clear ih hv
  by_cases hm0 : m = 0
  case pos =>
    have hq0 : q < 0 := by omega
    have HE : Hid (min (Tree.node op name ts).depth m = 0) := by show _ = _; rw [hm0]; simp
    go_enter Tryd.func29, Tryd.ntmps29
    go_wp2_with fail
    go_ret
    exact ⟨ret_int (by rw [HE.out]; rfl), (Below.refl _ _).alloc (Nat.le_refl _) _⟩
  case neg =>
  have hq0 : decide (q < 0) = false := by simp; omega
  have hqs : wrap64 (q - 1) = q - 1 := by unfold wrap64; omega
  obtain ⟨m', rfl⟩ : ∃ m', m = m' + 1 := ⟨m - 1, by omega⟩
  have hq1 : q - 1 + 1 = (m' : Int) := by omega
  have hql : q ≤ 1000000 := by omega
  clear hq hm0
  go_enter Tryd.func29, Tryd.ntmps29
  go_wp2_with fail
  have hb0 : Below w.heap.size w (w.alloc (.cells #[.int .i64 op, .string name, .slice a ts.length cap] 24)) := (Below.refl _ _).alloc (Nat.le_refl _) _
  have HB0 := hidIt hb0
  have HX : Hid ((w.alloc (.cells #[.int .i64 op, .string name, .slice a ts.length cap] 24)).heap[w.heap.size]? = some (.cells #[.int .i64 op, .string name, .slice a ts.length cap] 24 (0, 0))) := heap_alloc_new w _
  clear hb0
  generalize (w.alloc (.cells #[.int .i64 op, .string name, .slice a ts.length cap] 24)) = W at *
  go_loopw [5, 6, 12] (fun t _ i wr => ∃ k : Nat, k ≤ ts.length ∧ i = .int .i64 k ∧ t = .int .i64 ((min (depthL (ts.take k)) (m' + 1) : Nat) : Int) ∧ Hid (Below W.heap.size W wr)) (fun _ _ i _ => ts.length - (intOf i).toNat)
  case atStart => exact ⟨0, Nat.zero_le _, rfl, by simp [depthL], Below.refl _ _⟩
  case round =>
    obtain ⟨k, hk, rfl, rfl, hbel⟩ := hrel
    have HBw := hidIt (HB0.out.trans (hbel.out.mono HB0.out.size))
    have kX := blk_kept HX.out hbel.out
    obtain ⟨x0, x1, x2⟩ := cell_of3 kX
    have hlx := lt_of_block kX
    clear kX
    by_cases hlt : k < ts.length
    · obtain ⟨b', off', a', c', rfl, c0, c1, c2, hf⟩ := (HV.out.go HBw.out).at k hlt
      have HF := hidIt hf
      have HS := hidIt (depthL_take ts k hlt)
      have hm : ts[k] ∈ ts := List.getElem_mem hlt
      clear hf
      generalize ts[k] = t at *
      have hlt0 : (k : Int) < (ts.length : Int) := by omega
      have hk0 : (0 : Int) ≤ (k : Int) := by omega
      have HIH := hidIt (fun v w h => IH.out t hm m' (q - 1) v w h (by omega) hq1)
      obtain ⟨y, hy⟩ : ∃ y, y = min t.depth m' := ⟨_, rfl⟩
      obtain ⟨z, hz⟩ : ∃ z, z = min (depthL (ts.take k)) (m' + 1) := ⟨_, rfl⟩
      have HST : Hid (min (depthL (ts.take (k + 1))) (m' + 1) = max z (1 + y)) := by show _ = _; rw [HS.out, hz, hy]; omega
      rw [← hy] at HIH
      rw [← hz]
      have hyl : y ≤ 1000000 := by omega
      have hzl : z ≤ 1000001 := by omega
      clear hy hz
      go_wp2_with fail
      refine (HIH.out _ _ HF.out).mono ?_
      rintro e w5 ⟨rfl, h5⟩
      have HB5 : Hid (Below W.heap.size W w5) := hbel.out.trans (Below.mono h5 hbel.out.size)
      clear h5
      go_wp2_with fail
      go_roundw
      case rel => exact ⟨k + 1, by omega, by go_num, by rw [HST.out]; go_num, HB5.out⟩
      case measure => simp [intOf]; omega
    · go_wp2_with fail
      go_ret
      exact ⟨ret_int (by rw [HD.out, List.take_of_length_le (by omega)]), HBw.out⟩

set_option maxRecDepth 100000 in
set_option maxHeartbeats 1000000 in
theorem kshort_any : ∀ (t : Tree) (v : Value) (w : World), FormAt w none v t →
    Calls Tryd.prog 30 #[v] w fun e w' => e = .returned (.bool (t.all shortB)) ∧ Below w.heap.size w w' := by
  refine Tree.ind fun op name ts ih v w hv => ?_
  obtain ⟨a, cap, b, off, rfl, hop, hname, hlen, hcap, -, -⟩ := hv.form
  have HV := hidIt hv.forms
  simp only [Tree.op_node, Tree.name_node, Tree.args_node] at *
  have IH := hidIt ih
  unfold maxLen at hcap
  clear ih hv
  by_cases hs : 100 < name.size
  case pos =>
    have hs' : (100 : Int) < (name.size : Int) := by omega
    have HE : Hid ((Tree.node op name ts).all shortB = false) := by
      show _ = _
      rw [Tree.all, shortB, Tree.name_node, decide_eq_false (by omega), Bool.false_and]
    go_enter Tryd.func30, Tryd.ntmps30
    go_wp2_with fail
    go_ret
    exact ⟨ret_bool HE.out.symm, (Below.refl _ _).alloc (Nat.le_refl _) _⟩
  case neg =>
  have hs' : decide ((100 : Int) < (name.size : Int)) = false := by simp; omega
  have HE : Hid ((Tree.node op name ts).all shortB = allL shortB ts) := by
    show _ = _
    rw [Tree.all, shortB, Tree.name_node, decide_eq_true (by omega), Bool.true_and]
  clear hs
  go_enter Tryd.func30, Tryd.ntmps30
  go_wp2_with fail
  have hb0 : Below w.heap.size w (w.alloc (.cells #[.int .i64 op, .string name, .slice a ts.length cap] 24)) := (Below.refl _ _).alloc (Nat.le_refl _) _
  have HB0 := hidIt hb0
  have HX : Hid ((w.alloc (.cells #[.int .i64 op, .string name, .slice a ts.length cap] 24)).heap[w.heap.size]? = some (.cells #[.int .i64 op, .string name, .slice a ts.length cap] 24 (0, 0))) := heap_alloc_new w _
  clear hb0
  generalize (w.alloc (.cells #[.int .i64 op, .string name, .slice a ts.length cap] 24)) = W at *
  go_loopw [3, 11] (fun _ i wr => ∃ k : Nat, k ≤ ts.length ∧ i = .int .i64 k ∧ Hid (allL shortB (ts.take k) = true) ∧ Hid (Below W.heap.size W wr)) (fun _ i _ => ts.length - (intOf i).toNat)
  case atStart => exact ⟨0, Nat.zero_le _, rfl, by simp [Hid, allL], Below.refl _ _⟩
  case round =>
    obtain ⟨k, hk, rfl, hall, hbel⟩ := hrel
    have HBw := hidIt (HB0.out.trans (hbel.out.mono HB0.out.size))
    have kX := blk_kept HX.out hbel.out
    obtain ⟨x0, x1, x2⟩ := cell_of3 kX
    have hlx := lt_of_block kX
    clear kX
    by_cases hlt : k < ts.length
    · obtain ⟨b', off', a', c', rfl, c0, c1, c2, hf⟩ := (HV.out.go HBw.out).at k hlt
      have HF := hidIt hf
      have HS := hidIt (allL_take shortB ts k hlt)
      have HL : Hid (ts[k].all shortB = false → allL shortB ts = false) := fun h => by
        cases hh : allL shortB ts
        · rfl
        · have := allL_mem hh _ (List.getElem_mem hlt); rw [h] at this; cases this
      have hm : ts[k] ∈ ts := List.getElem_mem hlt
      clear hf
      generalize ts[k] = t at *
      have HIH := hidIt (fun v w h => IH.out t hm v w h)
      obtain ⟨r, hr⟩ : ∃ r, t.all shortB = r := ⟨_, rfl⟩
      rw [hr] at HIH HS HL
      clear hr
      have hlt0 : (k : Int) < (ts.length : Int) := by omega
      have hk0 : (0 : Int) ≤ (k : Int) := by omega
      have K0 := fun y => Ext.cell c0 y
      have K1 := fun y => Ext.cell c1 y
      have K2 := fun y => Ext.cell c2 y
      have M1 := fun y => Ext.cell x2 y
      clear K0 K1 K2 M1
      cases r
      · go_wp2_with fail
        refine (HIH.out _ _ HF.out).mono ?_
        rintro e w5 ⟨rfl, h5⟩
        have HB5 : Hid (Below w.heap.size w w5) := HBw.out.trans (Below.mono h5 HBw.out.size)
        clear h5
        go_wp2_with fail
        go_ret
        exact ⟨ret_bool (by rw [HE.out, HL.out trivial]), HB5.out⟩
      · go_wp2_with fail
        refine (HIH.out _ _ HF.out).mono ?_
        rintro e w5 ⟨rfl, h5⟩
        have HB5 : Hid (Below W.heap.size W w5) := hbel.out.trans (Below.mono h5 hbel.out.size)
        clear h5
        go_wp2_with fail
        go_roundw
        case rel => exact ⟨k + 1, by omega, by go_num, by show _ = _; rw [HS.out, hall.out]; rfl, HB5.out⟩
        case measure => simp [intOf]; omega
    · go_wp2_with fail
      go_ret
      have hall' := hall.out
      rw [List.take_of_length_le (by omega)] at hall'
      exact ⟨ret_bool (by rw [HE.out, hall']), HBw.out⟩

set_option maxRecDepth 100000 in
set_option maxHeartbeats 1000000 in
theorem ksmall_any (t : Tree) (v : Value) (w : World) (h : FormAt w none v t) :
    Calls Tryd.prog 6 #[v] w fun e w' => e = .returned (.bool (decide (t.nodes ≤ 800) && decide (t.depth ≤ 30) && t.all shortB)) ∧ Below w.heap.size w w' := by
  obtain ⟨a, cap, b, off, rfl, hop, hname, hlen, hcap, -, -⟩ := h.form
  have HB0 : Hid (Below w.heap.size w (w.alloc (.cells #[.int .i64 t.op, .string t.name, .slice a t.args.length cap] 24))) := (Below.refl _ _).alloc (Nat.le_refl _) _
  have HK0 := hidIt (heap_alloc_new w (.cells #[.int .i64 t.op, .string t.name, .slice a t.args.length cap] 24))
  have H := hidIt (h.go HB0.out)
  have hN := hidIt (fun v w h => knodes_any t 800 v w h (by omega))
  have hL := hidIt (fun v w h => klevels_any t 31 30 v w h (by omega) (by omega))
  have hS := hidIt (kshort_any t)
  clear h
  obtain ⟨x, hx⟩ : ∃ x, x = min t.nodes (800 + 1) := ⟨_, rfl⟩
  obtain ⟨y, hy⟩ : ∃ y, y = min t.depth 31 := ⟨_, rfl⟩
  obtain ⟨z, hz⟩ : ∃ z, z = t.all shortB := ⟨_, rfl⟩
  rw [← hx] at hN
  rw [← hy] at hL
  rw [← hz] at hS
  by_cases h1 : t.nodes ≤ 800
  case neg =>
    have h1' : decide ((x : Int) ≤ 800) = false := by simp; omega
    have HE : Hid ((decide (t.nodes ≤ 800) && decide (t.depth ≤ 30) && t.all shortB) = false) := by show _ = _; rw [decide_eq_false h1]; simp
    clear hx hy hz h1
    go_enter Tryd.func6, Tryd.ntmps6
    go_wp2_with fail
    refine (hN.out _ _ H.out).mono ?_
    rintro e w1 ⟨rfl, hb⟩
    have HB1 := hidIt (HB0.out.trans (Below.mono hb HB0.out.size))
    clear hb
    go_wp2_with fail
    go_ret
    exact ⟨ret_bool HE.out.symm, HB1.out⟩
  case pos =>
  have h1' : (x : Int) ≤ 800 := by omega
  by_cases h2 : t.depth ≤ 30
  case neg =>
    have h2' : decide ((y : Int) ≤ 30) = false := by simp; omega
    have HE : Hid ((decide (t.nodes ≤ 800) && decide (t.depth ≤ 30) && t.all shortB) = false) := by show _ = _; rw [decide_eq_false h2]; simp
    clear hx hy hz h2 h1
    go_enter Tryd.func6, Tryd.ntmps6
    go_wp2_with fail
    refine (hN.out _ _ H.out).mono ?_
    rintro e w1 ⟨rfl, hb⟩
    have HB1 := hidIt (HB0.out.trans (Below.mono hb HB0.out.size))
    have HK1 := hidIt (blk_kept HK0.out hb)
    have H1 := hidIt (H.out.go hb)
    clear hb
    obtain ⟨c0, c1, c2⟩ := cell_of3 HK1.out
    have cl := lt_of_block HK1.out
    go_wp2_with fail
    refine (hL.out _ _ H1.out).mono ?_
    rintro e w2 ⟨rfl, hb⟩
    have HB2 := hidIt (HB1.out.trans (Below.mono hb HB1.out.size))
    clear hb c0 c1 c2 cl
    go_wp2_with fail
    go_ret
    exact ⟨ret_bool HE.out.symm, HB2.out⟩
  case pos =>
  have h2' : (y : Int) ≤ 30 := by omega
  have HE : Hid ((decide (t.nodes ≤ 800) && decide (t.depth ≤ 30) && t.all shortB) = z) := by show _ = _; rw [decide_eq_true h1, decide_eq_true h2, hz]; simp
  clear hx hy hz h2 h1
  go_enter Tryd.func6, Tryd.ntmps6
  go_wp2_with fail
  refine (hN.out _ _ H.out).mono ?_
  rintro e w1 ⟨rfl, hb⟩
  have HB1 := hidIt (HB0.out.trans (Below.mono hb HB0.out.size))
  have HK1 := hidIt (blk_kept HK0.out hb)
  have H1 := hidIt (H.out.go hb)
  clear hb
  obtain ⟨c0, c1, c2⟩ := cell_of3 HK1.out
  have cl := lt_of_block HK1.out
  go_wp2_with fail
  refine (hL.out _ _ H1.out).mono ?_
  rintro e w2 ⟨rfl, hb⟩
  have HB2 := hidIt (HB1.out.trans (Below.mono hb HB1.out.size))
  have HK2 := hidIt (blk_kept HK1.out hb)
  have H2 := hidIt (H1.out.go hb)
  clear hb c0 c1 c2 cl
  obtain ⟨c0, c1, c2⟩ := cell_of3 HK2.out
  have cl := lt_of_block HK2.out
  go_wp2_with fail
  refine (hS.out _ _ H2.out).mono ?_
  rintro e w3 ⟨rfl, hb⟩
  have HB3 := hidIt (HB2.out.trans (Below.mono hb HB2.out.size))
  clear hb c0 c1 c2 cl
  go_wp2_with fail
  go_ret
  exact ⟨ret_bool HE.out.symm, HB3.out⟩
end Go.Proofs.YtpiiadmjddikfaaDoor
