/- The reference's Same, at two formulas that are the same tree. -/
import Derived.Test.YtmkcohcpdfabbaaDoorTree
namespace Go.Proofs.YtmkcohcpdfabbaaDoor
set_option linter.unusedVariables false
set_option linter.unusedSimpArgs false
open Go.RowKit

set_option maxRecDepth 100000 in
set_option maxHeartbeats 1000000 in
theorem qsame_true : ∀ (t : Tree) (v u : Value) (w : World), FormAt w none v t → FormAt w none u t →
    Calls Tryd.prog 29 #[v, u] w fun e w' => e = .returned (.bool true) ∧ Below w.heap.size w w' := by
  refine Tree.ind fun op name ts ih v u w hv hu => ?_
  have FV := hidIt hv.form
  have FU := hidIt hu.form
  obtain ⟨a, cap, b, off, rfl, hop, hname, hlen, hcap, -, -⟩ := hv.form
  obtain ⟨a2, cap2, b2, off2, rfl, -, -, hlen2, hcap2, -, -⟩ := hu.form
  have HV := hidIt hv.forms
  have HU := hidIt hu.forms
  simp only [Tree.op_node, Tree.name_node, Tree.args_node] at *
  have IH := hidIt ih
  unfold maxLen at hcap hcap2
  have hnm : (name.toList == name.toList) = true := beq_self_eq_true _
  clear ih hv hu FV FU
  go_enter Tryd.func29, Tryd.ntmps29
  go_wp2_with fail
  have hb0 : Below w.heap.size w ((w.alloc (.cells #[.int .i64 op, .string name, .slice a ts.length cap] 24)).alloc (.cells #[.int .i64 op, .string name, .slice a2 ts.length cap2] 24)) := ((Below.refl _ _).alloc (Nat.le_refl _) _).alloc (by simp) _
  have HB0 := hidIt hb0
  have HX : Hid (((w.alloc (.cells #[.int .i64 op, .string name, .slice a ts.length cap] 24)).alloc (.cells #[.int .i64 op, .string name, .slice a2 ts.length cap2] 24)).heap[w.heap.size]? = some (.cells #[.int .i64 op, .string name, .slice a ts.length cap] 24 (0, 0))) := blk_kept (heap_alloc_new w _) ((Below.refl _ _).alloc (Nat.le_refl _) _)
  have HY : Hid (((w.alloc (.cells #[.int .i64 op, .string name, .slice a ts.length cap] 24)).alloc (.cells #[.int .i64 op, .string name, .slice a2 ts.length cap2] 24)).heap[w.heap.size + 1]? = some (.cells #[.int .i64 op, .string name, .slice a2 ts.length cap2] 24 (0, 0))) := heap_alloc_at (by simp)
  clear hb0
  generalize ((w.alloc (.cells #[.int .i64 op, .string name, .slice a ts.length cap] 24)).alloc (.cells #[.int .i64 op, .string name, .slice a2 ts.length cap2] 24)) = W at *
  go_loopw [5] (fun i wr => ∃ k : Nat, k ≤ ts.length ∧ i = .int .i64 k ∧ Hid (Below W.heap.size W wr)) (fun i _ => ts.length - (intOf i).toNat)
  case atStart => exact ⟨0, Nat.zero_le _, rfl, Below.refl _ _⟩
  case round =>
    obtain ⟨k, hk, rfl, hbel⟩ := hrel
    have HBw := hidIt (HB0.out.trans (hbel.out.mono HB0.out.size))
    have kX := blk_kept HX.out hbel.out
    have kY := blk_kept HY.out hbel.out
    obtain ⟨x0, x1, x2⟩ := cell_of3 kX
    obtain ⟨y0, y1, y2⟩ := cell_of3 kY
    have hlx := lt_of_block kY
    clear kX kY
    by_cases hlt : k < ts.length
    · obtain ⟨b', off', a', c', rfl, c0, c1, c2, hf⟩ := (HV.out.go HBw.out).at k hlt
      obtain ⟨b2', off2', a2', c2', rfl, d0, d1, d2, hg⟩ := (HU.out.go HBw.out).at k hlt
      have HF := hidIt hf
      have HG := hidIt hg
      have hm : ts[k] ∈ ts := List.getElem_mem hlt
      clear hf hg
      generalize ts[k] = t at *
      have K0 := fun y => Ext.cell c0 y
      have K1 := fun y => Ext.cell c1 y
      have K2 := fun y => Ext.cell c2 y
      have L0 := fun y => Ext.cell d0 y
      have L1 := fun y => Ext.cell d1 y
      have L2 := fun y => Ext.cell d2 y
      have M0 := fun y => Ext.cell x2 y
      have M1 := fun y => Ext.cell y2 y
      have hlt0 : (k : Int) < (ts.length : Int) := by omega
      have hk0 : (0 : Int) ≤ (k : Int) := by omega
      go_wp2_with fail
      haveI := Ext.nonempty wr
      refine wp_region_in (Ext wr) (by kernel_rfl) (by kernel_rfl) (Ext.start wr) ?_
      repeat (go_big_quiet_step ((go_at_call 29; refine Ext.call (IH.out t hm _ _ _ (FormAt.go HF.out (In.h _)) (FormAt.go HG.out (In.h _))))))
      refine wpQuiet_nil ?_
      rintro w5 ⟨⟨_, h5⟩, rfl⟩
      have HB5 : Hid (Below W.heap.size W w5) := hbel.out.trans (Below.mono h5 hbel.out.size)
      clear h5 K0 K1 K2 L0 L1 L2 M0 M1
      go_wp2_with fail
      go_roundw
      case rel => exact ⟨k + 1, by omega, by go_num, HB5.out⟩
      case measure => simp [intOf]; omega
    · go_wp2_with fail
      go_ret
      exact ⟨rfl, HBw.out⟩
end Go.Proofs.YtmkcohcpdfabbaaDoor
