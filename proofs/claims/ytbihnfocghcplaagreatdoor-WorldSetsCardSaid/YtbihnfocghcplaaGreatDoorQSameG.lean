/- The reference's Same, at two formulas whatever. -/
import Derived.Test.YtbihnfocghcplaaGreatDoorTree
import Derived.Lib.Strings
namespace Go.Proofs.YtbihnfocghcplaaGreatDoor
set_option linter.unusedVariables false
set_option linter.unusedSimpArgs false
open Go.RowKit

/-- Are the two formulas the same tree? -/
noncomputable def sameP (t u : Tree) : Bool := @decide (t = u) (Classical.propDecidable _)
theorem sameP_true {t u : Tree} (h : t = u) : sameP t u = true := @decide_eq_true _ (Classical.propDecidable _) h
theorem sameP_false {t u : Tree} (h : t ≠ u) : sameP t u = false := @decide_eq_false _ (Classical.propDecidable _) h
theorem sameP_eq {t u : Tree} (h : sameP t u = true) : t = u := @of_decide_eq_true _ (Classical.propDecidable _) h
theorem sameP_ne {t u : Tree} (h : sameP t u = false) : t ≠ u := @of_decide_eq_false _ (Classical.propDecidable _) h

theorem ret_bl {a b : Bool} (h : a = b) : Ending.returned (.bool a) = .returned (.bool b) := by rw [h]

set_option maxRecDepth 100000 in
set_option maxHeartbeats 2000000 in
theorem qsameP_any : ∀ (t u : Tree) (v x : Value) (w : World), FormAt w none v t → FormAt w none x u →
    Calls Tryz.prog 18 #[v, x] w fun e w' => e = .returned (.bool (sameP t u)) ∧ Below w.heap.size w w' := by
  refine Tree.ind fun op name ts ih u v x w hv hu => ?_
  obtain ⟨op2, name2, us⟩ := u
  obtain ⟨a, cap, b, off, rfl, hop, hname, hlen, hcap, -, -⟩ := hv.form
  obtain ⟨a2, cap2, b2, off2, rfl, -, -, hlen2, hcap2, -, -⟩ := hu.form
  have HV := hidIt hv.forms
  have HU := hidIt hu.forms
  simp only [Tree.op_node, Tree.name_node, Tree.args_node] at *
  have IH := hidIt ih
  unfold maxLen at hcap hcap2
  clear ih hv hu
  have HB0 : Hid (Below w.heap.size w ((w.alloc (.cells #[.int .i64 op, .string name, .slice a ts.length cap] 24)).alloc (.cells #[.int .i64 op2, .string name2, .slice a2 us.length cap2] 24))) := ((Below.refl _ _).alloc (Nat.le_refl _) _).alloc (by simp) _
  have HX : Hid (((w.alloc (.cells #[.int .i64 op, .string name, .slice a ts.length cap] 24)).alloc (.cells #[.int .i64 op2, .string name2, .slice a2 us.length cap2] 24)).heap[w.heap.size]? = some (.cells #[.int .i64 op, .string name, .slice a ts.length cap] 24 (0, 0))) := blk_kept (heap_alloc_new w _) ((Below.refl _ _).alloc (Nat.le_refl _) _)
  have HY : Hid (((w.alloc (.cells #[.int .i64 op, .string name, .slice a ts.length cap] 24)).alloc (.cells #[.int .i64 op2, .string name2, .slice a2 us.length cap2] 24)).heap[w.heap.size + 1]? = some (.cells #[.int .i64 op2, .string name2, .slice a2 us.length cap2] 24 (0, 0))) := heap_alloc_at (by simp)
  by_cases ho : op = op2
  case neg =>
    have HS : Hid (sameP (.node op name ts) (.node op2 name2 us) = false) := sameP_false (fun e => ho (by injection e))
    go_enter Tryz.func18, Tryz.ntmps18
    go_wp2_with fail
    go_ret
    exact ⟨ret_bl HS.out.symm, HB0.out⟩
  case pos =>
  subst ho
  by_cases hn : name = name2
  case neg =>
    have e0 : ¬ name.toList = name2.toList := by
      intro e
      rw [Lib.toList_data, Lib.toList_data] at e
      exact hn (ByteArray.ext (Array.toList_inj.1 e))
    have HS : Hid (sameP (.node op name ts) (.node op name2 us) = false) := sameP_false (fun e => hn (by injection e))
    clear hn
    go_enter Tryz.func18, Tryz.ntmps18
    go_wp2_with fail
    go_ret
    exact ⟨ret_bl HS.out.symm, HB0.out⟩
  case pos =>
  subst hn
  have hnm : (name.toList == name.toList) = true := beq_self_eq_true _
  by_cases hl : ts.length = us.length
  case neg =>
    have e0 : ((ts.length : Int) != (us.length : Int)) = true := by rw [bne_iff_ne]; omega
    have HS : Hid (sameP (.node op name ts) (.node op name us) = false) := sameP_false (fun e => hl (by injection e with _ _ e; rw [e]))
    go_enter Tryz.func18, Tryz.ntmps18
    go_wp2_with fail
    go_ret
    exact ⟨ret_bl HS.out.symm, HB0.out⟩
  case pos =>
  have HL := hidIt hl.symm
  rw [← hl] at HB0 HX HY hlen2 ⊢
  clear hl
  go_enter Tryz.func18, Tryz.ntmps18
  go_wp2_with fail
  generalize ((w.alloc (.cells #[.int .i64 op, .string name, .slice a ts.length cap] 24)).alloc (.cells #[.int .i64 op, .string name, .slice a2 ts.length cap2] 24)) = W at *
  go_loopw [5] (fun i wr => ∃ k : Nat, k ≤ ts.length ∧ i = .int .i64 k ∧ Hid (∀ j (h : j < ts.length) (h' : j < us.length), j < k → ts[j] = us[j]) ∧ Hid (Below W.heap.size W wr)) (fun i _ => ts.length - (intOf i).toNat)
  case atStart => exact ⟨0, Nat.zero_le _, rfl, fun j _ _ h => by omega, Below.refl _ _⟩
  case round =>
    obtain ⟨k, hk, rfl, hall, hbel⟩ := hrel
    have HBw := hidIt (HB0.out.trans (hbel.out.mono HB0.out.size))
    have kX := blk_kept HX.out hbel.out
    have kY := blk_kept HY.out hbel.out
    obtain ⟨x0, x1, x2⟩ := cell_of3 kX
    obtain ⟨y0, y1, y2⟩ := cell_of3 kY
    have hlx := lt_of_block kY
    clear kX kY
    by_cases hlt : k < ts.length
    · obtain ⟨b', off', a', c', rfl, c0, c1, c2, hf⟩ := (HV.out.go HBw.out).at k hlt
      obtain ⟨b2', off2', a2', c2', rfl, d0, d1, d2, hg⟩ := (HU.out.go HBw.out).at k (by rw [HL.out]; exact hlt)
      have HF := hidIt hf
      have HG := hidIt hg
      have hm : ts[k] ∈ ts := List.getElem_mem hlt
      have HST : Hid (ts[k] = us[k]'(by rw [HL.out]; exact hlt) → ∀ j (h : j < ts.length) (h' : j < us.length), j < k + 1 → ts[j] = us[j]) := fun e j h h' hj => by
        by_cases ej : j = k
        · subst ej; exact e
        · exact hall.out j h h' (by omega)
      have HNE : Hid (ts[k] ≠ us[k]'(by rw [HL.out]; exact hlt) → sameP (.node op name ts) (.node op name us) = false) := fun e => sameP_false (fun e' => e (by injection e' with _ _ e'; subst e'; rfl))
      clear hf hg hall
      generalize ts[k] = t at *
      generalize (us[k]'(by rw [HL.out]; exact hlt)) = u at *
      obtain ⟨r, hr⟩ : ∃ r, sameP t u = r := ⟨_, rfl⟩
      have HC := hidIt (fun (w : World) (v x : Value) h1 h2 => IH.out t hm u v x w h1 h2)
      rw [hr] at HC
      have HRR := hidIt hr
      clear hr
      have K0 := fun y => Ext.cell c0 y
      have K1 := fun y => Ext.cell c1 y
      have K2 := fun y => Ext.cell c2 y
      have L0 := fun y => Ext.cell d0 y
      have L1 := fun y => Ext.cell d1 y
      have L2 := fun y => Ext.cell d2 y
      have M0 := fun y => Ext.cell x2 y
      have M1 := fun y => Ext.cell y2 y
      have hlt0 : (k : Int) < (ts.length : Int) := by omega
      have hk0 : (0 : Int) ≤ (k : Int) := by omega
      cases r
      · go_wp2_with fail
        haveI := Ext.nonempty wr
        refine wp_region_in (Ext wr) (by kernel_rfl) (by kernel_rfl) (Ext.start wr) ?_
        repeat (go_big_quiet_step ((go_at_call 18; refine Ext.call (HC.out _ _ _ (FormAt.go HF.out (In.h _)) (FormAt.go HG.out (In.h _))))))
        refine wpQuiet_nil ?_
        rintro w5 ⟨⟨_, h5⟩, rfl⟩
        have HB5 : Hid (Below w.heap.size w w5) := HBw.out.trans (Below.mono h5 HBw.out.size)
        clear h5 K0 K1 K2 L0 L1 L2 M0 M1
        go_wp2_with fail
        go_ret
        exact ⟨ret_bl (HNE.out (sameP_ne HRR.out)).symm, HB5.out⟩
      · go_wp2_with fail
        haveI := Ext.nonempty wr
        refine wp_region_in (Ext wr) (by kernel_rfl) (by kernel_rfl) (Ext.start wr) ?_
        repeat (go_big_quiet_step ((go_at_call 18; refine Ext.call (HC.out _ _ _ (FormAt.go HF.out (In.h _)) (FormAt.go HG.out (In.h _))))))
        refine wpQuiet_nil ?_
        rintro w5 ⟨⟨_, h5⟩, rfl⟩
        have HB5 : Hid (Below W.heap.size W w5) := hbel.out.trans (Below.mono h5 hbel.out.size)
        clear h5 K0 K1 K2 L0 L1 L2 M0 M1
        go_wp2_with fail
        go_roundw
        case rel => exact ⟨k + 1, by omega, by go_num, HST.out (sameP_eq HRR.out), HB5.out⟩
        case measure => simp [intOf]; omega
    · obtain rfl : k = ts.length := by omega
      have HS : Hid (sameP (.node op name ts) (.node op name us) = true) := sameP_true (by
        have : ts = us := List.ext_getElem HL.out.symm fun j h h' => hall.out j h h' h
        rw [this])
      go_wp2_with fail
      go_ret
      exact ⟨ret_bl HS.out.symm, HBw.out⟩
end Go.Proofs.YtbihnfocghcplaaGreatDoor
