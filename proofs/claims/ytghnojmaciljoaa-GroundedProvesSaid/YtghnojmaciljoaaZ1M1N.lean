/- The law GroundedProves: for all lists of numbers it answers true. -/
import Derived.Test.YtghnojmaciljoaaZ1D
import Derived.Test.YtghnojmaciljoaaL1U
import Derived.Test.YtghnojmaciljoaaL1M

namespace Go.Proofs.Ytghnojmaciljoaa
set_option linter.unusedVariables false
set_option linter.unusedSimpArgs false
open Go Go.RowKit Go.Sort

theorem SrcAt.cellsM {w : World} {B b : Nat} {zs : List Int} {k : Nat} (h : SrcAt w B b zs k) : ∃ cs, w.heap[b]? = some (.cells cs 46 (0, 0)) := by
  obtain ⟨a, cap, hx, -⟩ := h.ex
  exact ⟨_, hx⟩

/-- The row that is filled beside the reader. -/
structure PS12 (w5 w : World) (b0 F N : Nat) (zs : List Int) (wr : World) (fs : List Int) : Prop where
  len : fs.length = N
  ir : IR wr F fs
  src : ∃ k, SrcAt wr b0 b0 zs k
  gr : w5.grownBy wr (some b0)
  bl : Below w.heap.size w wr
  ne : b0 < F
  sz : w5.heap.size ≤ F
  b : b0 = w.heap.size
theorem PS12.set {w5 w : World} {b0 F N : Nat} {zs : List Int} {wr : World} {fs : List Int} (h : PS12 w5 w b0 F N zs wr fs) (i : Nat) (z : Int) : PS12 w5 w b0 F N zs (wr.setCell ⟨F, i, none⟩ (.int .i64 z)) (fs.set i z) := by
  obtain ⟨k, hk⟩ := h.src
  have hne := h.ne
  have hb := h.b
  exact ⟨by rw [List.length_set]; exact h.len, h.ir.set i z, ⟨k, hk.setCell _ _ (by show b0 ≤ F; omega) (by show F ≠ b0; omega)⟩, only_setCell h.gr (.inr h.sz) _, below_set5 h.bl (by omega), h.ne, h.sz, h.b⟩
theorem PS12.call {w5 w : World} {b0 F N : Nat} {zs : List Int} {wr w' : World} {fs : List Int} {k : Nat} (h : PS12 w5 w b0 F N zs wr fs) (hs : SrcAt w' b0 b0 zs k) (hg : wr.grownBy w' (some b0)) : PS12 w5 w b0 F N zs w' fs := by
  have hne := h.ne
  exact ⟨h.len, h.ir.gr hg (by omega), ⟨k, hs⟩, only_trans h.gr hg, below_read h.bl (by rw [← h.b]; exact hg) h.bl.size, h.ne, h.sz, h.b⟩

set_option maxRecDepth 100000 in
set_option maxHeartbeats 4000000 in
theorem proves_walk (lv : Value) (zs : List Int) (rv : Value) (rs : List Int) (w : World) (hz : IntsAt w w.heap.size lv zs) (hr : IL w rv rs) :
    Calls Try.prog 6 #[lv, rv] w fun e w' => e = .returned (.bool true) ∧ Below w.heap.size w w' := by
  have HZ := hidIt hz
  have HRS := hidIt hr
  obtain ⟨ra, rc, rfl, -⟩ := hr.ic
  clear hz hr
  go_enter Try.func6, Try.ntmps6
  go_wp2_with fail
  refine (new_any lv zs w.heap.size w HZ.out (Nat.le_refl _)).mono ?_
  rintro e w1 ⟨zs', rfl, hs1, o1, rfl⟩
  have HS1 := hidIt hs1
  have HB1 := hidIt (bgrow w o1)
  have hsz1 : w.heap.size < (w.alloc o1).heap.size := hs1.lt
  clear hs1
  generalize w.alloc o1 = w1 at *
  obtain ⟨b0, hb0⟩ : ∃ b0, b0 = w.heap.size := ⟨_, rfl⟩
  have Hb0 := hidIt hb0
  rw [← hb0] at HS1 hsz1 ⊢
  clear hb0
  go_wp2_with fail
  refine (kGraph_any 5 (by decide) _ _ _ _ w1 HS1.out).mono ?_
  rintro e w2 ⟨N, ps, ga, gc, k2, rfl, hN, hok, hpl, hop, hs2, hg2⟩
  have HOK := hidIt hok
  have HPS := hidIt hpl
  have hgr := bgrow w2 (.cells #[.int .i64 (N : Int), .slice ga ps.length gc] 27)
  have HO3 := hidIt (hop.below hgr)
  have HX3 := hidIt (heap_alloc_new w2 (.cells #[.int .i64 (N : Int), .slice ga ps.length gc] 27))
  have HB2 := hidIt (below_read HB1.out (by rw [← Hb0.out]; exact hg2) (by rw [← Hb0.out]; exact Nat.le_of_lt hsz1))
  have HB3 := hidIt (HB2.out.trans (Below.mono hgr HB2.out.size))
  have HS3 := hidIt (hs2.alloc (.cells #[.int .i64 (N : Int), .slice ga ps.length gc] 27))
  clear hok hpl hop hs2 hg2 hgr HB2 HS1 HB1
  go_upto_region 3 with (fail)
  generalize (w2.alloc (.cells #[.int .i64 (N : Int), .slice ga ps.length gc] 27)) = w3 at *
  generalize w2.heap.size = G at *
  obtain ⟨x0, x1⟩ := And.intro (cell_two0 HX3.out) (cell_two1 HX3.out)
  have lx := lt_of_block HX3.out
  obtain ⟨lab, rk, hsp⟩ := gspec_ex HOK.out
  have HSP := hidIt hsp
  clear hsp
  have X0 : ∀ wx, Ext w3 wx → wx.cell? ⟨G, 0, none⟩ = some (.int .i64 (N : Int)) := fun wx hC => ext_cell x0 lx hC
  have X1 : ∀ wx, Ext w3 wx → wx.cell? ⟨G, 1, none⟩ = some (.slice ga ps.length gc) := fun wx hC => ext_cell x1 lx hC
  have CL : Hid (∀ wx, Ext w3 wx → Calls Try.prog 11 #[.agg #[.int .i64 (N : Int), .slice ga ps.length gc]] wx fun e w'' => ∃ u, e = .returned u ∧ Ext w3 w'' ∧ Grows wx w'' ∧ isR12 N lab u w'') := fun wx hC => rel_call hC (uLabel_rel (HO3.out.below hC).lits HOK.out (by have := HPS.out; omega) HSP.out)
  have CR : Hid (∀ wx, Ext w3 wx → Calls Try.prog 13 #[.agg #[.int .i64 (N : Int), .slice ga ps.length gc]] wx fun e w'' => ∃ u, e = .returned u ∧ Ext w3 w'' ∧ Grows wx w'' ∧ isR12 N rk u w'') := fun wx hC => rel_call hC (uRanks_rel (HO3.out.below hC).lits HOK.out (by have := HPS.out; omega) HSP.out)
  haveI := Ext.nonempty w3
  refine wp_region_rel (Ext w3) Grows (relTab [(18, isR12 N lab), (20, isR12 N rk)]) (by kernel_rfl) (by kernel_rfl) (by kernel_rfl) (stable_cons (isR12_up _ _) (stable_cons (isR12_up _ _) (stable_nil _))) (Ext.start w3) ?_
  repeat (
    refine' walkR_plain (by kernel_rfl) rfl rfl (fun wx hC hL => ?_) ?_
    rotate_left
    · (have hlx := Nat.lt_of_lt_of_le lx (Below.size hC)
       simp only [X0 wx hC, X1 wx hC, hlx, go_sem]; first | done | (go_simp; exact ⟨rfl, rfl⟩))
    simp only [Act.put, List.setIfInBounds_toArray, List.set_cons_zero, List.set_cons_succ])
  refine walkR_rel (by kernel_rfl) rfl rfl (of_decide_eq_true (by kernel_rfl)) (fun wx hC hL => ?_) (fun v hv => ?_)
  · go_simp
    exact CL.out wx hC
  obtain ⟨_, _, L1, rfl, -⟩ := hv
  simp only [Act.put, List.setIfInBounds_toArray, List.set_cons_zero, List.set_cons_succ]
  repeat (
    refine' walkR_plain (by kernel_rfl) rfl rfl (fun wx hC hL => ?_) ?_
    rotate_left
    · (have hlx := Nat.lt_of_lt_of_le lx (Below.size hC)
       simp only [X0 wx hC, X1 wx hC, hlx, go_sem]; first | done | (go_simp; exact ⟨rfl, rfl⟩))
    simp only [Act.put, List.setIfInBounds_toArray, List.set_cons_zero, List.set_cons_succ])
  refine walkR_rel (by kernel_rfl) rfl rfl (of_decide_eq_true (by kernel_rfl)) (fun wx hC hL => ?_) (fun v hv => ?_)
  · go_simp
    exact CR.out wx hC
  obtain ⟨_, _, L2, rfl, -⟩ := hv
  simp only [Act.put, List.setIfInBounds_toArray, List.set_cons_zero, List.set_cons_succ]
  repeat (
    refine' walkR_plain (by kernel_rfl) rfl rfl (fun wx hC hL => ?_) ?_
    rotate_left
    · (have hlx := Nat.lt_of_lt_of_le lx (Below.size hC)
       simp only [X0 wx hC, X1 wx hC, hlx, go_sem]; first | done | (go_simp; exact ⟨rfl, rfl⟩))
    simp only [Act.put, List.setIfInBounds_toArray, List.set_cons_zero, List.set_cons_succ])
  refine fun w4 hE4 hK => ?_
  obtain ⟨L1', e1, hl1⟩ : isR12 N lab (.slice (some ⟨L1, 0, none⟩) N N) w4 := hK 18 (by simp [more]) (isR12 N lab) rfl
  obtain ⟨L2', e2, hl2⟩ : isR12 N rk (.slice (some ⟨L2, 0, none⟩) N N) w4 := hK 20 (by simp [more]) (isR12 N rk) rfl
  injection e1 with e1
  injection e1 with e1
  injection e1 with e1
  subst e1
  injection e2 with e2
  injection e2 with e2
  injection e2 with e2
  subst e2
  have hW4 : Below w3.heap.size w3 w4 := hE4
  have HA4 := hidIt hl1
  have HR4 := hidIt hl2
  have HO4 := hidIt (HO3.out.below hW4)
  have HX4 := hidIt (blk_kept2 HX3.out hW4)
  have HB4 := hidIt (HB3.out.trans (Below.mono hW4 HB3.out.size))
  have HS4 := hidIt (HS3.out.grow (only_of_below hW4 none))
  have HCK := hidIt (chk_ok HOK.out HSP.out)
  have hlab := HSP.out.ll
  have hrkl := HSP.out.rl
  have HLAB := hidIt hlab
  have HRKL := hidIt hrkl
  clear hE4 hK hW4 hl1 hl2 X0 X1 CL CR x0 x1 lx HO3 HX3 HB3 HS3 hlab hrkl
  obtain ⟨x0, x1⟩ := And.intro (cell_two0 HX4.out) (cell_two1 HX4.out)
  have lx := lt_of_block HX4.out
  go_wp2_with fail
  refine (uCheck_any (N : Int) _ _ _ ps lab rk w4 HO4.out.lits HPS.out (HA4.out.ilN HLAB.out (by omega)) (HR4.out.ilN HRKL.out (by omega)) (by have := HLAB.out; omega) (by have := HRKL.out; omega)).mono ?_
  rw [HCK.out]
  rintro e w5 ⟨rfl, hb5⟩
  have HA5 := hidIt (HA4.out.go hb5)
  have HR5 := hidIt (HR4.out.go hb5)
  have HO5 := hidIt (HO4.out.below hb5)
  have HX5 := hidIt (blk_kept2 HX4.out hb5)
  have HB5 := hidIt (HB4.out.trans (Below.mono hb5 HB4.out.size))
  have HS5 := hidIt (HS4.out.grow (only_of_below hb5 none))
  clear hb5 x0 x1 lx HA4 HR4 HO4 HX4 HB4 HS4
  obtain ⟨x0, x1⟩ := And.intro (cell_two0 HX5.out) (cell_two1 HX5.out)
  have lx := lt_of_block HX5.out
  have hmk := make_ints N (by omega) w5
  have hg6 := bgrow w5 (.cells (intRow (List.replicate N 0)) 3)
  have HF6 : Hid (IR (w5.alloc (.cells (intRow (List.replicate N 0)) 3)) w5.heap.size (List.replicate N 0)) := heap_alloc_new w5 _
  have HS6 := hidIt (HS5.out.alloc (.cells (intRow (List.replicate N 0)) 3))
  have HG6 : Hid (w5.grownBy (w5.alloc (.cells (intRow (List.replicate N 0)) 3)) (some b0)) := only_alloc (only_refl w5 _) _
  have HB6 := hidIt (HB5.out.trans (Below.mono hg6 HB5.out.size))
  have hbF : b0 < w5.heap.size := HS5.out.lt
  obtain ⟨csb, hcsb⟩ := HS5.out.cellsM
  have HNE : Hid (G ≠ b0 ∧ L1 ≠ b0 ∧ L2 ≠ b0) := ⟨types_neM HX5.out hcsb (by decide), types_neM HA5.out hcsb (by decide), types_neM HR5.out hcsb (by decide)⟩
  clear hg6 HS5 hcsb
  go_wp2_with fail
  clear x0 x1 lx hmk
  generalize (w5.alloc (.cells (intRow (List.replicate N 0)) 3)) = w6 at *
  obtain ⟨F, hF⟩ : ∃ F, F = w5.heap.size := ⟨_, rfl⟩
  have HFF := hidIt hF
  rw [← hF] at HF6 hbF ⊢
  clear hF
  have HPS0 : Hid (PS12 w5 w b0 F N zs' w6 (List.replicate N 0)) := ⟨List.length_replicate .., HF6.out, ⟨_, HS6.out⟩, HG6.out, HB6.out, hbF, by rw [HFF.out]; exact Nat.le_refl _, Hb0.out⟩
  have HRC : Hid (IC w ra rs) := by
    obtain ⟨a', c', he, hic⟩ := HRS.out.ic
    injection he with he1 he2 he3
    subst he1
    exact hic
  obtain ⟨RN, hRN⟩ : ∃ RN, RN = rs.length := ⟨_, rfl⟩
  have HRN := hidIt hRN
  rw [← hRN]
  clear hRN HF6 HS6 HG6 HB6
  go_loopw [10, 31] (fun _ v31 wr => ∃ (i : Nat) (fs : List Int), i ≤ N ∧ v31 = .int .i64 i ∧ Hid (PS12 w5 w b0 F N zs' wr fs)) (fun _ v31 _ => N - (intOf v31).toNat)
  case atStart => exact ⟨0, _, Nat.zero_le _, (by first | rfl | trivial), HPS0.out⟩
  case round =>
    clear HPS0
    obtain ⟨i, fs, hi, rfl, HQ⟩ := hrel
    have hi0 : (0 : Int) ≤ (i : Int) := by omega
    by_cases hlt : i < N
    · have hiI : (i : Int) < (N : Int) := by omega
      by_cases hir : i < RN
      · have hirI : (i : Int) < (RN : Int) := by omega
        have hirl : i < rs.length := by have := HRN.out; omega
        obtain ⟨br, orr, rfl, lr, hcr⟩ := (HRC.out.go HQ.out.bl).at_ hirl
        have qr := hcr i hirl
        generalize rs[i] = rz at *
        clear hcr hirl
        obtain ⟨zz, hcF⟩ := HQ.out.ir.ex (i := i) (by rw [HQ.out.len]; exact hlt)
        have hfF := HQ.out.ir.free i
        have hlF := HQ.out.ir.lt
        have HQ7 := hidIt (HQ.out.set i rz)
        clear HQ
        go_upto_region 12 with (fail)
        clear hcF hfF hlF qr lr
        generalize (wr.setCell ⟨F, i, none⟩ (.int .i64 rz)) = w7 at *
        have HQ := HQ7
        clear HQ7
        obtain ⟨k0, hk0s⟩ := HQ.out.src
        have HK0 := hidIt hk0s
        clear hk0s
        go_wp2_with fail
        refine (sn_nat 2 (by decide) (by decide) b0 b0 zs' k0 _ HK0.out).mono ?_
        rintro e w8 ⟨z, k8, rfl, hz, hs8, hg8⟩
        have HQ8 := hidIt (HQ.out.call hs8 hg8)
        have HS8 := hidIt hs8
        clear hs8 hg8 HQ HK0
        by_cases hz0 : z = 0
        · subst hz0
          go_wp2_with fail
          refine (sn_nat 5 (by decide) (by decide) b0 b0 zs' k8 _ HS8.out).mono ?_
          rintro e w9 ⟨z9, k9, rfl, hz9, hs9, hg9⟩
          have HQ9 := hidIt (HQ8.out.call hs9 hg9)
          clear hs9 hg9 HQ8 HS8
          obtain ⟨zz, hcF⟩ := HQ9.out.ir.ex (i := i) (by rw [HQ9.out.len]; exact hlt)
          have hfF := HQ9.out.ir.free i
          have hlF := HQ9.out.ir.lt
          have HQ10 := hidIt (HQ9.out.set i (z9 : Int))
          go_wp2_with fail
          go_roundw
          case rel => exact ⟨i + 1, _, by omega, by go_num, HQ10.out⟩
          case measure => simp [intOf]; omega
        · have hzb : ((z : Int) == 0) = false := beq_eq_false_iff_ne.2 (by omega)
          clear hz0
          go_wp2_with fail
          go_roundw
          case rel => exact ⟨i + 1, _, by omega, by go_num, HQ8.out⟩
          case measure => simp [intOf]; omega
      · have hirI : ¬ (i : Int) < (RN : Int) := by omega
        obtain ⟨k0, hk0s⟩ := HQ.out.src
        have HK0 := hidIt hk0s
        clear hk0s
        go_wp2_with fail
        refine (sn_nat 2 (by decide) (by decide) b0 b0 zs' k0 _ HK0.out).mono ?_
        rintro e w8 ⟨z, k8, rfl, hz, hs8, hg8⟩
        have HQ8 := hidIt (HQ.out.call hs8 hg8)
        have HS8 := hidIt hs8
        clear hs8 hg8 HQ HK0
        by_cases hz0 : z = 0
        · subst hz0
          go_wp2_with fail
          refine (sn_nat 5 (by decide) (by decide) b0 b0 zs' k8 _ HS8.out).mono ?_
          rintro e w9 ⟨z9, k9, rfl, hz9, hs9, hg9⟩
          have HQ9 := hidIt (HQ8.out.call hs9 hg9)
          clear hs9 hg9 HQ8 HS8
          obtain ⟨zz, hcF⟩ := HQ9.out.ir.ex (i := i) (by rw [HQ9.out.len]; exact hlt)
          have hfF := HQ9.out.ir.free i
          have hlF := HQ9.out.ir.lt
          have HQ10 := hidIt (HQ9.out.set i (z9 : Int))
          go_wp2_with fail
          go_roundw
          case rel => exact ⟨i + 1, _, by omega, by go_num, HQ10.out⟩
          case measure => simp [intOf]; omega
        · have hzb : ((z : Int) == 0) = false := beq_eq_false_iff_ne.2 (by omega)
          clear hz0
          go_wp2_with fail
          go_roundw
          case rel => exact ⟨i + 1, _, by omega, by go_num, HQ8.out⟩
          case measure => simp [intOf]; omega
    · obtain rfl : i = N := by omega
      have hiI : ¬ (i : Int) < (i : Int) := by omega
      have hQ := HQ.out
      have HXr : Hid (wr.heap[G]? = some (.cells #[.int .i64 (i : Int), .slice ga ps.length gc] 27 (0, 0))) := (hQ.gr.block G (lt_of_block HX5.out) (fun e => by injection e with e; exact HNE.out.1 e)).trans HX5.out
      have HAr := hidIt (HA5.out.gr hQ.gr HNE.out.2.1)
      have HRr := hidIt (HR5.out.gr hQ.gr HNE.out.2.2)
      have HFr := hidIt hQ.ir
      have HFL := hidIt hQ.len
      have HBr := hidIt hQ.bl
      have HOr := hidIt (HO5.out.kept hQ.gr (fun g e b cap hv => by
        injection e with e
        rcases HO5.out with ⟨h, -⟩ | ⟨b', cap', h, -, -, h4, -⟩
        · rw [h] at hv; cases hv
        · rw [h] at hv
          injection hv with hv
          injection hv with hv
          injection hv with hv
          omega))
      clear hQ HQ HA5 HR5 HO5 HX5 HB5
      generalize wr = w7 at *
      obtain ⟨x0, x1⟩ := And.intro (cell_two0 HXr.out) (cell_two1 HXr.out)
      have lx := lt_of_block HXr.out
      go_wp2_with fail
      refine (rlLabellings_any i (by omega) w7).mono ?_
      rintro e w8 ⟨zss, la, lc, rfl, hll, hsh, hzl, hb8⟩
      have HSH := hidIt hsh
      have HA8 := hidIt (HAr.out.go hb8)
      have HR8 := hidIt (HRr.out.go hb8)
      have HF8 := hidIt (HFr.out.go hb8)
      have HO8 := hidIt (HOr.out.below hb8)
      have HX8 := hidIt (blk_kept2 HXr.out hb8)
      have HB8 := hidIt (HBr.out.trans (Below.mono hb8 HBr.out.size))
      obtain ⟨la', lc', hle, hcs⟩ := hll.form
      injection hle with hle1 hle2 hle3
      subst hle1 hle3
      have HLC := hidIt hcs
      obtain ⟨M, hM⟩ : ∃ M, M = zss.length := ⟨_, rfl⟩
      have HM := hidIt hM
      have hM729 : M ≤ 729 := by omega
      rw [← hM]
      clear hsh hll hb8 hzl hle2 hcs hM HAr HRr HFr HOr HXr HBr x0 x1 lx
      go_wp2_with fail
      go_loopw [12, 58] (fun _ v58 wr => ∃ k : Nat, k ≤ M ∧ v58 = .int .i64 k ∧ Hid (Below w8.heap.size w8 wr)) (fun _ v58 _ => M - (intOf v58).toNat)
      case atStart => exact ⟨0, Nat.zero_le _, (by first | rfl | trivial), Below.refl _ _⟩
      case round =>
        obtain ⟨k, hk, rfl, HB⟩ := hrel
        have hk0 : (0 : Int) ≤ (k : Int) := by omega
        by_cases hlt2 : k < M
        · have hkI : (k : Int) < (M : Int) := by omega
          have hkz : k < zss.length := by have := HM.out; omega
          obtain ⟨bo, oo, u, rfl, lo, cu, iu⟩ := HLC.out k hkz
          have cu2 := (Below.cell (p := ⟨bo, oo + k, none⟩) HB.out lo).trans cu
          have lo2 := Nat.lt_of_lt_of_le lo HB.out.size
          have HIX := hidIt (iu.below HB.out)
          have HXN : Hid (zss[k].length ≤ 1000) := by show _ ≤ _; have := HSH.out k hkz; omega
          generalize zss[k] = z at *
          obtain ⟨xa, xc, rfl, -⟩ := HIX.out.form
          clear cu iu lo hkz
          have HKI := hidIt (kInts_any _ _ lab z wr ((HA8.out.go HB.out).ilN HLAB.out (by omega)) HIX.out (by have := HLAB.out; omega) (by have := HXN.out; omega))
          by_cases hlz : lab = z
          · rw [decide_eq_true hlz] at HKI
            clear hlz
            go_wp2_with fail
            refine HKI.out.mono ?_
            rintro e w9 ⟨rfl, hb9⟩
            have HB9 := hidIt (HB.out.trans (Below.mono hb9 HB.out.size))
            clear hb9
            go_wp2_with fail
            go_roundw
            case rel => exact ⟨k + 1, by omega, by go_num, HB9.out⟩
            case measure => simp [intOf]; omega
          · rw [decide_eq_false hlz] at HKI
            have HN1 : Hid (chkF (i : Int) ps z fs ≠ 0) := fun h => hlz (chk_zero HOK.out HSP.out h)
            have HN2 : Hid (chkF (i : Int) ps z rk ≠ 0) := fun h => hlz (chk_zero HOK.out HSP.out h)
            clear hlz
            go_wp2_with fail
            refine HKI.out.mono ?_
            rintro e w9 ⟨rfl, hb9⟩
            have HB9 := hidIt (HB.out.trans (Below.mono hb9 HB.out.size))
            have HI9 := hidIt (HIX.out.below hb9)
            have HX9 := hidIt (blk_kept2 HX8.out HB9.out)
            clear hb9 HKI HB HIX cu2 lo2
            obtain ⟨x0, x1⟩ := And.intro (cell_two0 HX9.out) (cell_two1 HX9.out)
            have lx := lt_of_block HX9.out
            go_wp2_with fail
            refine (uCheck_any (i : Int) _ _ _ ps z fs w9 (HO8.out.below HB9.out).lits HPS.out HI9.out ((HF8.out.go HB9.out).ilN HFL.out (by omega)) HXN.out (by have := HFL.out; omega)).mono ?_
            generalize chkF (i : Int) ps z fs = c1 at *
            rintro e w10 ⟨rfl, hb10⟩
            have HB10 := hidIt (HB9.out.trans (Below.mono hb10 HB9.out.size))
            have HI10 := hidIt (HI9.out.below hb10)
            have HX10 := hidIt (blk_kept2 HX9.out hb10)
            have hc1b : (c1 == 0) = false := beq_eq_false_iff_ne.2 HN1.out
            clear hb10 HB9 HI9 HX9 x0 x1 lx
            obtain ⟨x0, x1⟩ := And.intro (cell_two0 HX10.out) (cell_two1 HX10.out)
            have lx := lt_of_block HX10.out
            go_wp2_with fail
            refine (uCheck_any (i : Int) _ _ _ ps z rk w10 (HO8.out.below HB10.out).lits HPS.out HI10.out ((HR8.out.go HB10.out).ilN HRKL.out (by omega)) HXN.out (by have := HRKL.out; omega)).mono ?_
            generalize chkF (i : Int) ps z rk = c2 at *
            rintro e w11 ⟨rfl, hb11⟩
            have HB11 := hidIt (HB10.out.trans (Below.mono hb11 HB10.out.size))
            have hc2b : (c2 == 0) = false := beq_eq_false_iff_ne.2 HN2.out
            clear hb11
            go_wp2_with fail
            go_roundw
            case rel => exact ⟨k + 1, by omega, by go_num, HB11.out⟩
            case measure => simp [intOf]; omega
        · obtain rfl : k = M := by omega
          have hkI : ¬ (k : Int) < (k : Int) := by omega
          go_wp2_with fail
          refine (awake12_any _).mono ?_
          rintro e w30 ⟨rfl, hb⟩
          have HBF := hidIt ((HB8.out.trans (Below.mono HB.out HB8.out.size)).trans (Below.mono hb (Nat.le_trans HB8.out.size HB.out.size)))
          clear hb
          go_wp2_with fail
          go_ret
          exact ⟨rfl, HBF.out⟩
end Go.Proofs.Ytghnojmaciljoaa
