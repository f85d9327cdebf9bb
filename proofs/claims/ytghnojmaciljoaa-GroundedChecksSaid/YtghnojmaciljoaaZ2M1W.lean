/- The law GroundedChecks: for any graph, labels, ranks and numbers it answers true. -/
import Derived.Test.YtghnojmaciljoaaZ2H
import Derived.Test.YtghnojmaciljoaaZ2M1V

namespace Go.Proofs.Ytghnojmaciljoaa
set_option linter.unusedVariables false
set_option linter.unusedSimpArgs false
open Go Go.RowKit Go.Sort

set_option maxRecDepth 100000 in
set_option maxHeartbeats 4000000 in
theorem checks_walk (n1 : Int) (v1 : Value) (p1 : List (Int × Int)) (v2 : Value) (l2 : List Int) (v3 : Value) (l3 : List Int) (lv : Value) (zs : List Int) (w : World) (h1 : PairsAt w v1 p1) (h2 : IL w v2 l2) (h3 : IL w v3 l3) (hz : IntsAt w w.heap.size lv zs) :
    Calls Try.prog 4 #[.agg #[.int .i64 n1, v1], v2, v3, lv] w fun e w' => e = .returned (.bool true) ∧ Below w.heap.size w w' := by
  have HZ := hidIt hz
  have hgr := bgrow w (.cells #[.int .i64 n1, v1] 27)
  have HP1 := hidIt (h1.below hgr)
  have H2 := hidIt (h2.below hgr)
  have H3 := hidIt (h3.below hgr)
  obtain ⟨a1, c1, rfl, -⟩ := h1.form
  obtain ⟨a2, c2, rfl, -⟩ := h2.form
  obtain ⟨a3, c3, rfl, -⟩ := h3.form
  have HX := hidIt (heap_alloc_new w (.cells #[.int .i64 n1, .slice a1 p1.length c1] 27))
  have HB := hidIt hgr
  clear h1 h2 h3 hz hgr
  go_enter Try.func4, Try.ntmps4
  go_upto_region 1 with (fail)
  generalize hw0 : (w.alloc (.cells #[.int .i64 n1, .slice a1 p1.length c1] 27)) = w0 at *
  have hsz0 : w0.heap.size = w.heap.size + 1 := by rw [← hw0]; simp
  clear hw0
  obtain ⟨R0, hR0⟩ : ∃ R0, R0 = w.heap.size := ⟨_, rfl⟩
  have HR0 := hidIt hR0
  rw [← hR0] at HX hsz0 ⊢
  clear hR0
  obtain ⟨x0, x1⟩ := And.intro (cell_two0 HX.out) (cell_two1 HX.out)
  have lx := lt_of_block HX.out
  by_cases la : 60 < p1.length
  · have la' : (60 : Int) < (p1.length : Int) := by omega
    go_wp2_with fail
    go_ret
    exact ⟨rfl, HB.out⟩
  have la' : ¬ (60 : Int) < (p1.length : Int) := by omega
  by_cases lb : 60 < l2.length
  · have lb' : (60 : Int) < (l2.length : Int) := by omega
    go_wp2_with fail
    go_ret
    exact ⟨rfl, HB.out⟩
  have lb' : ¬ (60 : Int) < (l2.length : Int) := by omega
  by_cases lc : 60 < l3.length
  · have lc' : (60 : Int) < (l3.length : Int) := by omega
    go_wp2_with fail
    go_ret
    exact ⟨rfl, HB.out⟩
  have lc' : ¬ (60 : Int) < (l3.length : Int) := by omega
  have HL1 : Hid (p1.length ≤ 60) := by show _ ≤ _; omega
  have HL2 : Hid (l2.length ≤ 60) := by show _ ≤ _; omega
  have HL3 : Hid (l3.length ≤ 60) := by show _ ≤ _; omega
  clear la lb lc
  go_wp2_with fail
  clear la' lb' lc' x0 x1 lx
  have hz0 : IntsAt w0 w0.heap.size lv zs := by
    rcases HZ.out with h | ⟨x, cap, e1, e2, e3, e5, e6⟩
    · exact .inl h
    · refine .inr ⟨x, cap, e1, e2, e3, fun i hi => ?_, e6⟩
      obtain ⟨db, off, e, hd, hc⟩ := e5 i hi
      exact ⟨db, off, e, by have := HB.out.size; omega, (Below.cell (p := ⟨db, off + i, none⟩) HB.out hd).trans hc⟩
  refine (new_any lv zs w0.heap.size w0 hz0 (Nat.le_refl _)).mono ?_
  rintro e w1 ⟨zs', rfl, hs1, o1, rfl⟩
  have HS1 := hidIt hs1
  have HW1 := hidIt (bgrow w0 o1)
  have hsz1 : w0.heap.size < (w0.alloc o1).heap.size := hs1.lt
  clear hs1 hz0 HZ
  generalize w0.alloc o1 = w1 at *
  obtain ⟨b, hb⟩ : ∃ b, b = w0.heap.size := ⟨_, rfl⟩
  have Hb := hidIt hb
  have hbR : R0 < b := by omega
  rw [← hb] at HS1 hsz1 ⊢
  clear hb hsz0
  go_wp2_with fail
  refine (kGraph_any 6 (by decide) _ _ _ _ w1 HS1.out).mono ?_
  rintro e w2 ⟨N, ps, ga, gc, k2, rfl, hN, hok, hpl, hop, hs2, hg2⟩
  have HOK := hidIt hok
  have HPL : Hid (ps.length ≤ 64) := pairs_few hok (by omega)
  have hgr := bgrow w2 (.cells #[.int .i64 (N : Int), .slice ga ps.length gc] 27)
  have HS3 := hidIt (hs2.alloc (.cells #[.int .i64 (N : Int), .slice ga ps.length gc] 27))
  have HG3 := hidIt (PX.of (hop.below hgr).lits HS3.out)
  have HZ3 := hidIt (heap_alloc_new w2 (.cells #[.int .i64 (N : Int), .slice ga ps.length gc] 27))
  have hw2 := below_read HW1.out (by rw [← Hb.out]; exact hg2) (by rw [← Hb.out]; exact Nat.le_of_lt hsz1)
  have HW3 := hidIt (hw2.trans (Below.mono hgr hw2.size))
  have hbG : b < w2.heap.size := hs2.lt
  clear hok hpl hop hs2 hg2 hgr hw2 HS1 HW1
  go_upto_region 5 with (fail)
  generalize (w2.alloc (.cells #[.int .i64 (N : Int), .slice ga ps.length gc] 27)) = w3 at *
  generalize w2.heap.size = G at *
  obtain ⟨z0, z1⟩ := And.intro (cell_two0 HZ3.out) (cell_two1 HZ3.out)
  have lz := lt_of_block HZ3.out
  obtain ⟨lab, rk, hsp⟩ := gspec_ex HOK.out
  have HSP := hidIt hsp
  have HLL := hidIt hsp.ll
  have HRL := hidIt hsp.rl
  clear hsp
  have Z0 : ∀ wx, Ext w3 wx → wx.cell? ⟨G, 0, none⟩ = some (.int .i64 (N : Int)) := fun wx hC => ext_cell z0 lz hC
  have Z1 : ∀ wx, Ext w3 wx → wx.cell? ⟨G, 1, none⟩ = some (.slice ga ps.length gc) := fun wx hC => ext_cell z1 lz hC
  have C1 : Hid (∀ wx, Ext w3 wx → Calls Try.prog 12 #[.agg #[.int .i64 (N : Int), .slice ga ps.length gc]] wx fun e w'' => ∃ u, e = .returned u ∧ Ext w3 w'' ∧ Grows wx w'' ∧ isOw w3.heap.size N lab u w'') := fun wx hC => rel_call hC (rdLabel_own (HG3.out.1.below hC) HOK.out (by have := HPL.out; omega) HSP.out (Below.size hC))
  have C2 : Hid (∀ wx, Ext w3 wx → Calls Try.prog 14 #[.agg #[.int .i64 (N : Int), .slice ga ps.length gc]] wx fun e w'' => ∃ u, e = .returned u ∧ Ext w3 w'' ∧ Grows wx w'' ∧ isOw w3.heap.size N rk u w'') := fun wx hC => rel_call hC (rdRanks_own (HG3.out.1.below hC) HOK.out (by have := HPL.out; omega) HSP.out (Below.size hC))
  haveI := Ext.nonempty w3
  refine wp_region_rel (Ext w3) Grows (relTab [(40, isOw w3.heap.size N lab), (42, isOw w3.heap.size N rk)]) (by kernel_rfl) (by kernel_rfl) (by kernel_rfl) (stable_cons (isOw_up _ _ _) (stable_cons (isOw_up _ _ _) (stable_nil _))) (Ext.start w3) ?_
  repeat (
    refine' walkR_plain (by kernel_rfl) rfl rfl (fun wx hC hL => ?_) ?_
    rotate_left
    · (have hlz := Nat.lt_of_lt_of_le lz (Below.size hC)
       simp only [Z0 wx hC, Z1 wx hC, hlz, go_sem]; first | done | (go_simp; exact ⟨rfl, rfl⟩))
    simp only [Act.put, List.setIfInBounds_toArray, List.set_cons_zero, List.set_cons_succ])
  refine walkR_rel (by kernel_rfl) rfl rfl (of_decide_eq_true (by kernel_rfl)) (fun wx hC hL => ?_) (fun v hv => ?_)
  · go_simp
    exact C1.out wx hC
  obtain ⟨_, _, ga4, gc4, rfl, -⟩ := hv
  simp only [Act.put, List.setIfInBounds_toArray, List.set_cons_zero, List.set_cons_succ]
  repeat (
    refine' walkR_plain (by kernel_rfl) rfl rfl (fun wx hC hL => ?_) ?_
    rotate_left
    · (have hlz := Nat.lt_of_lt_of_le lz (Below.size hC)
       simp only [Z0 wx hC, Z1 wx hC, hlz, go_sem]; first | done | (go_simp; exact ⟨rfl, rfl⟩))
    simp only [Act.put, List.setIfInBounds_toArray, List.set_cons_zero, List.set_cons_succ])
  refine walkR_rel (by kernel_rfl) rfl rfl (of_decide_eq_true (by kernel_rfl)) (fun wx hC hL => ?_) (fun v hv => ?_)
  · go_simp
    exact C2.out wx hC
  obtain ⟨_, _, pa4, pc4, rfl, -⟩ := hv
  simp only [Act.put, List.setIfInBounds_toArray, List.set_cons_zero, List.set_cons_succ]
  repeat (
    refine' walkR_plain (by kernel_rfl) rfl rfl (fun wx hC hL => ?_) ?_
    rotate_left
    · (have hlz := Nat.lt_of_lt_of_le lz (Below.size hC)
       simp only [Z0 wx hC, Z1 wx hC, hlz, go_sem]; first | done | (go_simp; exact ⟨rfl, rfl⟩))
    simp only [Act.put, List.setIfInBounds_toArray, List.set_cons_zero, List.set_cons_succ])
  refine fun w4 hE4 hK => ?_
  have hl1 : isOw w3.heap.size N lab (.slice ga4 N gc4) w4 := hK 40 (by simp [more]) (isOw w3.heap.size N lab) rfl
  have hl2 : isOw w3.heap.size N rk (.slice pa4 N pc4) w4 := hK 42 (by simp [more]) (isOw w3.heap.size N rk) rfl
  have hW4 : Below w3.heap.size w3 w4 := hE4
  have HGD4 := hidIt hl1.own
  have HPF4 := hidIt hl2.own
  have HGR4 := hidIt (only_of_below hW4 (some b))
  have HS4 := hidIt (HS3.out.grow (only_of_below hW4 none))
  have hb3 : b < w3.heap.size := HS3.out.lt
  have hL04 : w3.heap.size ≤ w4.heap.size := hW4.size
  clear hE4 hK hW4 hl1 hl2 Z0 Z1 C1 C2 z0 z1 lz HS3
  have hgr5 := bgrow w4 (.cells #[] 3)
  have HN5 := hidIt (heap_alloc_new w4 (.cells #[] 3))
  have HI5 : Hid (IL (w4.alloc (.cells #[] 3)) (.slice ga4 N gc4) lab) := (HGD4.out.go hgr5).il
  go_wp2_with (at_builtin; refine Hid.out ?_)
  refine hidIt ?_
  refine wpList_append_ints rfl (.tmp 43) (.tmp 44) rfl w4.heap.size w4.heap.size (Nat.le_refl _) HN5.out rfl ga4 N gc4 lab rfl HI5.out (by omega) ?_
  intro og oc w5 ho5 hg5
  have hb5 : Below w4.heap.size w4 w5 := below_app5 hgr5 hg5 (fun g e => by injection e with e; omega) hgr5.size
  have HOD5 := hidIt (owns_mono ho5 hL04)
  have HGD5 := hidIt (HGD4.out.go hb5)
  have HPF5 := hidIt (HPF4.out.go hb5)
  have HGR5 := hidIt (only_trans HGR4.out (only_of_below hb5 (some b)))
  have HS5 := hidIt (HS4.out.grow (only_of_below hb5 none))
  have hL05 : w3.heap.size ≤ w5.heap.size := Nat.le_trans hL04 hb5.size
  have hoglt : og < w5.heap.size := (owns_blk ho5 og rfl).2
  have hog4 : w4.heap.size ≤ og := (owns_blk ho5 og rfl).1
  have hogl : w3.heap.size ≤ og := Nat.le_trans hL04 hog4
  have HD1 : Hid (∀ g, (Value.slice ga4 N gc4).ownBlock = some g → g < og) := fun g e => Nat.lt_of_lt_of_le (owns_blk HGD4.out g e).2 hog4
  have HD2 : Hid (∀ g, (Value.slice pa4 N pc4).ownBlock = some g → g < og) := fun g e => Nat.lt_of_lt_of_le (owns_blk HPF4.out g e).2 hog4
  clear hgr5 HN5 HI5 ho5 hg5 hb5 HGD4 HPF4 HGR4 HS4 hL04 hog4
  have hgr6 := bgrow w5 (.cells #[] 3)
  have HN6 := hidIt (heap_alloc_new w5 (.cells #[] 3))
  have HI6 : Hid (IL (w5.alloc (.cells #[] 3)) (.slice pa4 N pc4) rk) := (HPF5.out.go hgr6).il
  go_wp2_with (at_builtin; refine Hid.out ?_)
  refine hidIt ?_
  refine wpList_append_ints rfl (.tmp 46) (.tmp 47) rfl w5.heap.size w5.heap.size (Nat.le_refl _) HN6.out rfl pa4 N pc4 rk rfl HI6.out (by omega) ?_
  intro tg tc w6 ho6 hg6
  have hb6 : Below w5.heap.size w5 w6 := below_app5 hgr6 hg6 (fun g e => by injection e with e; omega) hgr6.size
  have htg : og ≠ tg := by have := (owns_blk ho6 tg rfl).1; omega
  have HOT6 := hidIt (owns_mono ho6 hL05)
  have HOD6 := hidIt (HOD5.out.go hb6)
  have HGD6 := hidIt (HGD5.out.go hb6)
  have HPF6 := hidIt (HPF5.out.go hb6)
  have HGR6 := hidIt (only_trans HGR5.out (only_of_below hb6 (some b)))
  have HS6 := hidIt (HS5.out.grow (only_of_below hb6 none))
  have htg5 : og < tg := by have := (owns_blk ho6 tg rfl).1; omega
  have HCK : Hid (CK w3 b N zs' ga4 pa4 gc4 pc4 og oc tg tc lab rk lab rk w6) := ⟨HGR6.out, ⟨_, HS6.out⟩, HGD6.out, HPF6.out, HOD6.out, HOT6.out, HLL.out, HRL.out, htg, fun g e => by have := HD1.out g e; omega, fun g e => by have := HD2.out g e; omega, hogl, by omega, hb3⟩
  clear hgr6 HN6 HI6 ho6 hg6 hb6 HOD5 HGD5 HPF5 HGR5 HS5 hL05 hoglt HGR6 HS6 HGD6 HPF6 HOD6 HOT6 HD1 HD2 htg htg5
  have HZ6 : Hid (w6.heap[G]? = some (.cells #[.int .i64 (N : Int), .slice ga ps.length gc] 27 (0, 0))) := (HCK.out.gr.block G (lt_of_block HZ3.out) (fun e => by injection e with e; omega)).trans HZ3.out
  obtain ⟨z0, z1⟩ := And.intro (cell_two0 HZ6.out) (cell_two1 HZ6.out)
  have lz := lt_of_block HZ6.out
  clear HZ6
  by_cases hN0 : N = 0
  focus
    have hnI : ¬ (0 : Int) < (N : Int) := by omega
    have HCF : Hid (∃ ol tl, CK w3 b N zs' ga4 pa4 gc4 pc4 og oc tg tc lab rk ol tl w6) := ⟨_, _, HCK.out⟩
    clear hN0
    go_upto_region 10 with (fail)
    clear HCK z0 z1 lz hnI
    generalize w6 = w9 at *
  rotate_left
  focus
    have hnI : (0 : Int) < (N : Int) := by omega
    obtain ⟨k6, hk6⟩ := HCK.out.src
    have HK6 := hidIt hk6
    clear hk6
    go_wp2_with fail
    refine (sn_nat (N : Int) (by omega) (by omega) b b zs' k6 _ HK6.out).mono ?_
    rintro e w7 ⟨m, k7, rfl, hm, hs7, hg7⟩
    have hmN : m < N := by omega
    have hm0 : (0 : Int) ≤ (m : Int) := by omega
    have hmI : (m : Int) < (N : Int) := by omega
    have HCK7 := hidIt (HCK.out.call hs7 hg7)
    have HS7 := hidIt hs7
    clear hs7 hg7 HCK HK6 z0 z1 lz hm
    go_wp2_with fail
    refine (sn_nat 3 (by decide) (by decide) b b zs' k7 _ HS7.out).mono ?_
    rintro e w8 ⟨z, k8, rfl, hz, hs8, hg8⟩
    have hz0 : (0 : Int) ≤ (z : Int) := by omega
    have HCK8 := hidIt (HCK7.out.call hs8 hg8)
    have HS8 := hidIt hs8
    clear hs8 hg8 HCK7 HS7
    obtain ⟨lo, ⟨zo, co⟩, fo⟩ := HCK8.out.atO hmN
    go_upto_region 9 with (fail)
    clear lo co fo hN0 hnI
    have HCK9 := hidIt (HCK8.out.setO m (1 + (z : Int)))
    clear HCK8 HS8
    generalize (w8.setCell ⟨og, m, none⟩ (.int .i64 (1 + (z : Int)))) = w9 at *
    obtain ⟨k9, hk9⟩ := HCK9.out.src
    have HK9 := hidIt hk9
    have HZ9 : Hid (w9.heap[G]? = some (.cells #[.int .i64 (N : Int), .slice ga ps.length gc] 27 (0, 0))) := (HCK9.out.gr.block G (lt_of_block HZ3.out) (fun e => by injection e with e; omega)).trans HZ3.out
    obtain ⟨z0, z1⟩ := And.intro (cell_two0 HZ9.out) (cell_two1 HZ9.out)
    have lz := lt_of_block HZ9.out
    clear hk9 HZ9 hz hz0
    go_wp2_with fail
    refine (sn_nat (N : Int) (by omega) (by omega) b b zs' k9 _ HK9.out).mono ?_
    rintro e w10 ⟨m2, k10, rfl, hm2, hs10, hg10⟩
    have hm2N : m2 < N := by omega
    have hm20 : (0 : Int) ≤ (m2 : Int) := by omega
    have hm2I : (m2 : Int) < (N : Int) := by omega
    have HCK10 := hidIt (HCK9.out.call hs10 hg10)
    have HS10 := hidIt hs10
    clear hs10 hg10 HCK9 HK9 z0 z1 lz hm2
    go_wp2_with fail
    refine (sn_nat 5 (by decide) (by decide) b b zs' k10 _ HS10.out).mono ?_
    rintro e w11 ⟨z2, k11, rfl, hz2, hs11, hg11⟩
    have HCK11 := hidIt (HCK10.out.call hs11 hg11)
    clear hs11 hg11 HCK10 HS10
    obtain ⟨lt1, ⟨zt, ct⟩, ft⟩ := HCK11.out.atT hm2N
    go_upto_region 10 with (fail)
    clear lt1 ct ft
    have HCF : Hid (∃ ol tl, CK w3 b N zs' ga4 pa4 gc4 pc4 og oc tg tc lab rk ol tl (w11.setCell ⟨tg, m2, none⟩ (.int .i64 ((z2 : Int) - 1)))) := ⟨_, _, HCK11.out.setT m2 ((z2 : Int) - 1)⟩
    clear HCK11 hz2
    generalize (w11.setCell ⟨tg, m2, none⟩ (.int .i64 ((z2 : Int) - 1))) = w9 at *
  all_goals (
    obtain ⟨ol, tl, hck⟩ := HCF.out
    have HCK := hidIt hck
    obtain ⟨k9, hk9⟩ := hck.src
    have HS9 := hidIt hk9
    have hww : Below w0.heap.size w0 w9 := below_read HW3.out (by rw [← Hb.out]; exact hck.gr) HW3.out.size
    have HWW := hidIt hww
    have HX9 := hidIt (blk_kept2 HX.out hww)
    have HZ9 : Hid (w9.heap[G]? = some (.cells #[.int .i64 (N : Int), .slice ga ps.length gc] 27 (0, 0))) := (hck.gr.block G (lt_of_block HZ3.out) (fun e => by injection e with e; omega)).trans HZ3.out
    have HPa := hidIt (PX.of (HP1.out.below hww) hk9)
    have HPg := hidIt (HG3.out.keep hck.gr)
    obtain ⟨x0, x1⟩ := And.intro (cell_two0 HX9.out) (cell_two1 HX9.out)
    have lx := lt_of_block HX9.out
    obtain ⟨z0, z1⟩ := And.intro (cell_two0 HZ9.out) (cell_two1 HZ9.out)
    have lz := lt_of_block HZ9.out
    have hbb : b < w9.heap.size := hk9.lt
    have hxb : R0 ≠ b := by omega
    have hzb : G ≠ b := by omega
    clear HCF hck hk9 hww
    have X0 : ∀ wx, Own.CB w9 b b zs' wx → wx.cell? ⟨R0, 0, none⟩ = some (.int .i64 n1) := fun wx hC => hC.cell x0 hxb
    have X1 : ∀ wx, Own.CB w9 b b zs' wx → wx.cell? ⟨R0, 1, none⟩ = some (.slice a1 p1.length c1) := fun wx hC => hC.cell x1 hxb
    have Z0 : ∀ wx, Own.CB w9 b b zs' wx → wx.cell? ⟨G, 0, none⟩ = some (.int .i64 (N : Int)) := fun wx hC => hC.cell z0 hzb
    have Z1 : ∀ wx, Own.CB w9 b b zs' wx → wx.cell? ⟨G, 1, none⟩ = some (.slice ga ps.length gc) := fun wx hC => hC.cell z1 hzb
    have HCS : Hid (∀ wx, Own.CB w9 b b zs' wx → Calls Try.prog 17 #[.pointer (some ⟨b, 0, none⟩), .agg #[.int .i64 (N : Int), .slice ga ps.length gc]] wx fun e w'' => ∃ u, e = .returned u ∧ Own.CB w9 b b zs' w'' ∧ Own.GB b wx w'' ∧ Own.relR (Own.rA (Own.isGy b 1000)) wx u w'') := fun wx hC => by
      obtain ⟨q, hq⟩ := hC.2
      exact Own.callB hC ((kSpoiltGraph_any (N : Int) _ ps b b zs' q wx (HPg.out.keep hC.1).1 (by have := HPL.out; omega) hq).mono fun e w' ⟨n, qs, a, c, k', h1, h2, h3, h4, h5⟩ => ⟨_, h1, ⟨n, qs, by have := HPL.out; omega, a, c, rfl, PX.of h3.lits h4⟩, ⟨k', h4⟩, h5⟩)
    haveI : Nonempty (In (Own.CB w9 b b zs')) := ⟨⟨w9, Own.CB.one _ _ _ _ _ HS9.out⟩⟩
    refine Own.wp_region_rel (Own.CB w9 b b zs') (Own.GB b) (Own.relTab [(74, Own.rA (Own.isGy b 1000)), (75, Own.rA (Own.isThree b))]) (by kernel_rfl) (by kernel_rfl) (by kernel_rfl) (Own.stableB_cons (Own.isGy_up _ _) (Own.stableB_cons (Own.isThree_up _) (Own.stableB_nil _ _))) (Own.CB.start HS9.out) ?_
    repeat (
      refine' Own.walkR_plain (by kernel_rfl) rfl rfl (fun wx hC hL => ?_) ?_
      rotate_left
      · (have hlw := hC.1.size
         have hlx := Nat.lt_of_lt_of_le lx hlw
         have hlz := Nat.lt_of_lt_of_le lz hlw
         simp only [X0 wx hC, X1 wx hC, Z0 wx hC, Z1 wx hC, hlx, hlz, go_sem]; first | done | (go_simp; exact ⟨rfl, rfl⟩))
      simp only [Act.put, List.setIfInBounds_toArray, List.set_cons_zero, List.set_cons_succ])
    refine Own.walkR_rel (by kernel_rfl) rfl rfl (of_decide_eq_true (by kernel_rfl)) (fun wx hC hL => ?_) (fun v hv => ?_)
    · go_simp
      exact HCS.out wx hC
    obtain ⟨_, _, n40, p40, -, a40, c40, rfl, -⟩ := hv
    generalize p40.length = m40
    simp only [Act.put, List.setIfInBounds_toArray, List.set_cons_zero, List.set_cons_succ]
    repeat (
      refine' Own.walkR_plain (by kernel_rfl) rfl rfl (fun wx hC hL => ?_) ?_
      rotate_left
      · (have hlw := hC.1.size
         have hlx := Nat.lt_of_lt_of_le lx hlw
         have hlz := Nat.lt_of_lt_of_le lz hlw
         simp only [X0 wx hC, X1 wx hC, Z0 wx hC, Z1 wx hC, hlx, hlz, go_sem]; first | done | (go_simp; exact ⟨rfl, rfl⟩))
      simp only [Act.put, List.setIfInBounds_toArray, List.set_cons_zero, List.set_cons_succ])
    refine Own.walkR_rel (by kernel_rfl) rfl rfl (of_decide_eq_true (by kernel_rfl)) (fun wx hC hL => ?_) (fun v hv => ?_)
    · have h40 : Own.isGy b 1000 (.agg #[.int .i64 n40, .slice a40 m40 c40]) wx := hL.get 74 (by simp [Own.more]) (by kernel_rfl) rfl rfl
      obtain ⟨n4, p4, k4l, h4⟩ := h40
      obtain ⟨rfl, k4⟩ := Own.isGx_use h4
      have hbw : b < wx.heap.size := Nat.lt_of_lt_of_le hbb hC.1.size
      have key := hidIt (gsx_blk3 (n1 := n1) (n2 := (N : Int)) (n3 := n40) hbw (HPa.out.keep hC.1) (HPg.out.keep hC.1) k4 (by have := HL1.out; omega) (by have := HPL.out; omega) k4l 27)
      clear h4 k4 k4l
      go_simp
      exact ⟨hC.grown (bgrow wx _), only_of_below (bgrow wx _) _, ⟨_, _, rfl, rfl, key.out⟩, fun h => by cases h⟩
    obtain ⟨_, _, g5, gs, rfl, hgl, -⟩ := hv
    simp only [Act.put, List.setIfInBounds_toArray, List.set_cons_zero, List.set_cons_succ]
    repeat (
      refine' Own.walkR_plain (by kernel_rfl) rfl rfl (fun wx hC hL => ?_) ?_
      rotate_left
      · (have hlw := hC.1.size
         simp only [X0 wx hC, X1 wx hC, go_sem]; first | done | (go_simp; exact ⟨rfl, rfl⟩))
      simp only [Act.put, List.setIfInBounds_toArray, List.set_cons_zero, List.set_cons_succ])
    refine fun w10 hC10 hK => ?_
    obtain ⟨g5', gs, e42, hgl, hgx⟩ : Own.isThree b (.slice (some ⟨g5, 0, none⟩) 3 3) w10 := hK.get 75 (by simp [Own.more]) rfl rfl
    injection e42 with e42
    injection e42 with e42
    injection e42 with e42
    subst e42
    have HGS := hidIt hgx.gs
    have HGL := hidIt hgl
    obtain ⟨k10, hk10⟩ := hC10.2
    have hck := HCK.out.call hk10 hC10.1
    have hww : Below w0.heap.size w0 w10 := below_read HWW.out (by rw [← Hb.out]; exact hC10.1) HWW.out.size
    have HBW := hidIt (HB.out.trans (Below.mono hww HB.out.size))
    have I2 := hidIt (H2.out.below hww)
    have I3 := hidIt (H3.out.below hww)
    have IG := hidIt hck.gd.il
    have IP := hidIt hck.pf.il
    have IO := hidIt hck.od.il
    have IT := hidIt hck.ot.il
    have LO := hidIt hck.oll
    have LT := hidIt hck.otl
    clear hK hC10 hgx hgl hk10 hck hww X0 X1 Z0 Z1 HCS HCK HS9 HWW HX9 HZ9 HPa HPg x0 x1 z0 z1 lx lz hbb hxb hzb HB HP1 H2 H3 HX HG3 HW3 HZ3 Hb HSP
    go_upto_region 11 with (fail)
    go_loopw [16, 18, 20, 77, 86, 95] (fun _ _ _ vi _ _ wr => ∃ j : Nat, j ≤ 3 ∧ vi = .int .i64 (j : Int) ∧ Hid (Below w10.heap.size w10 wr)) (fun _ _ _ vi _ _ _ => 3 - (intOf vi).toNat)
    case atStart => exact ⟨0, Nat.zero_le _, (by first | rfl | trivial), Below.refl _ _⟩
    case round =>
      obtain ⟨j, hj, rfl, HB1⟩ := hrel
      have hj0 : (0 : Int) ≤ (j : Int) := by omega
      by_cases hjl : j < 3
      · have hjI : (j : Int) < 3 := by omega
        have hjg : j < gs.length := by have := HGL.out; omega
        have HGr := hidIt (HGS.out.go HB1.out)
        obtain ⟨hql, qa, qc, g0, g1, hqp⟩ := HGr.out.2 j hjg
        have lg := HGr.out.1
        generalize gs[j].2 = q at *
        generalize gs[j].1 = n at *
        have HQL := hidIt hql
        have hgz := bgrow wr (.cells #[.int .i64 n, .slice qa q.length qc] 27)
        have HQ := hidIt (hqp.below hgz)
        have HX := hidIt (heap_alloc_new wr (.cells #[.int .i64 n, .slice qa q.length qc] 27))
        have HB2 := hidIt (HB1.out.trans (Below.mono hgz HB1.out.size))
        clear hql hqp hgz HGr HB1
        go_upto_region 13 with (fail)
        clear g0 g1 lg
        generalize (wr.alloc (.cells #[.int .i64 n, .slice qa q.length qc] 27)) = w11 at *
        generalize wr.heap.size = X at *
        have hgl2 := bgrow w11 (.cells #[.slice a2 l2.length c2, .slice ga4 N gc4, .slice (some ⟨og, 0, none⟩) N oc] 22)
        have HLB := hidIt (l3_blk (I2.out.below HB2.out) (IG.out.below HB2.out) (IO.out.below HB2.out) HL2.out (by have := HLL.out; omega) (by have := LO.out; omega) 22)
        have HX12 := hidIt (blk_kept2 HX.out hgl2)
        have HQ12 := hidIt (HQ.out.below hgl2)
        have HB12 := hidIt (HB2.out.trans (Below.mono hgl2 HB2.out.size))
        clear hgl2 HX HQ HB2
        go_upto_region 14 with (fail)
        generalize (w11.alloc (.cells #[.slice a2 l2.length c2, .slice ga4 N gc4, .slice (some ⟨og, 0, none⟩) N oc] 22)) = w12 at *
        generalize w11.heap.size = LB at *
        go_loopw [18, 20, 86, 95] (fun _ _ vi _ wr => ∃ k : Nat, k ≤ 3 ∧ vi = .int .i64 (k : Int) ∧ Hid (Below w12.heap.size w12 wr)) (fun _ _ vi _ _ => 3 - (intOf vi).toNat)
        case atStart => exact ⟨0, Nat.zero_le _, (by first | rfl | trivial), Below.refl _ _⟩
        case round =>
          obtain ⟨k, hk, rfl, HB3⟩ := hrel
          have hk0 : (0 : Int) ≤ (k : Int) := by omega
          by_cases hkl : k < 3
          · have hkI : (k : Int) < 3 := by omega
            obtain ⟨xa, xn, xc, xs, g0, hxi, hxl⟩ := (HLB.out.go HB3.out).2 k hkl
            have lg := (HLB.out.go HB3.out).1
            have HXL : Hid (xs.length ≤ 60) := hxl
            have hgl3 := bgrow wr (.cells #[.slice a3 l3.length c3, .slice pa4 N pc4, .slice (some ⟨tg, 0, none⟩) N tc] 22)
            have HBB := hidIt (HB12.out.trans (Below.mono HB3.out HB12.out.size))
            have HLC := hidIt (l3_blk (I3.out.below HBB.out) (IP.out.below HBB.out) (IT.out.below HBB.out) HL3.out (by have := HRL.out; omega) (by have := LT.out; omega) 22)
            have HXI := hidIt (hxi.below hgl3)
            have HX13 := hidIt (blk_kept2 (blk_kept2 HX12.out HB3.out) hgl3)
            have HQ13 := hidIt ((HQ12.out.below HB3.out).below hgl3)
            have HB13 := hidIt (HB3.out.trans (Below.mono hgl3 HB3.out.size))
            clear hgl3 HBB hxi hxl HB3
            go_upto_region 17 with (fail)
            clear g0 lg
            generalize (wr.alloc (.cells #[.slice a3 l3.length c3, .slice pa4 N pc4, .slice (some ⟨tg, 0, none⟩) N tc] 22)) = w13 at *
            generalize wr.heap.size = LC at *
            go_loopw [20, 95] (fun _ vi wr => ∃ t : Nat, t ≤ 3 ∧ vi = .int .i64 (t : Int) ∧ Hid (Below w13.heap.size w13 wr)) (fun _ vi _ => 3 - (intOf vi).toNat)
            case atStart => exact ⟨0, Nat.zero_le _, (by first | rfl | trivial), Below.refl _ _⟩
            case round =>
              obtain ⟨t, ht, rfl, HB4⟩ := hrel
              have ht0 : (0 : Int) ≤ (t : Int) := by omega
              by_cases htl : t < 3
              · have htI : (t : Int) < 3 := by omega
                obtain ⟨ya, yn, yc, ys, g0, hyi, hyl⟩ := (HLC.out.go HB4.out).2 t htl
                have lg := (HLC.out.go HB4.out).1
                have HYL : Hid (ys.length ≤ 60) := hyl
                have HYI := hidIt hyi
                have HXJ := hidIt (HXI.out.below HB4.out)
                have HX14 := hidIt (blk_kept2 HX13.out HB4.out)
                have HQ14 := hidIt (HQ13.out.below HB4.out)
                clear hyi hyl
                go_upto_region 19 with (fail)
                clear g0 lg
                generalize hwr : wr = wz at *
                clear hwr
                obtain ⟨x0, x1⟩ := And.intro (cell_two0 HX14.out) (cell_two1 HX14.out)
                have lx := lt_of_block HX14.out
                have X0 : ∀ wx, Ext wz wx → wx.cell? ⟨X, 0, none⟩ = some (.int .i64 n) := fun wx hC => ext_cell x0 lx hC
                have X1 : ∀ wx, Ext wz wx → wx.cell? ⟨X, 1, none⟩ = some (.slice qa q.length qc) := fun wx hC => ext_cell x1 lx hC
                have C1 : Hid (∀ wx, Ext wz wx → Calls Try.prog 18 #[.agg #[.int .i64 n, .slice qa q.length qc], .slice xa xn xc, .slice ya yn yc] wx fun e w'' => ∃ u, e = .returned u ∧ Ext wz w'' ∧ Grows wx w'' ∧ isV (.int .i64 (chkF n q xs ys)) u w'') := fun wx hC => rel_call hC ((uCheck_any n _ _ _ q xs ys wx (HQ14.out.below hC) HQL.out (HXJ.out.below hC) (HYI.out.below hC) (by have := HXL.out; omega) (by have := HYL.out; omega)).mono fun e w'' ⟨k1, k2⟩ => ⟨_, k1, rfl, k2⟩)
                have C2 : Hid (∀ wx, Ext wz wx → Calls Try.prog 19 #[.agg #[.int .i64 n, .slice qa q.length qc], .slice xa xn xc, .slice ya yn yc] wx fun e w'' => ∃ u, e = .returned u ∧ Ext wz w'' ∧ Grows wx w'' ∧ isV (.int .i64 (chkF n q xs ys)) u w'') := fun wx hC => rel_call hC ((rdCheck_any n _ _ _ q xs ys wx (HQ14.out.below hC) HQL.out (HXJ.out.below hC) (HYI.out.below hC) (by have := HXL.out; omega) (by have := HYL.out; omega)).mono fun e w'' ⟨k1, k2⟩ => ⟨_, k1, rfl, k2⟩)
                generalize chkF n q xs ys = CH at C1 C2
                have hne : (CH != CH) = false := bne_self_eq_false _
                haveI := Ext.nonempty wz
                refine wp_region_rel (Ext wz) Grows (relTab [(102, isV (.int .i64 CH)), (106, isV (.int .i64 CH))]) (by kernel_rfl) (by kernel_rfl) (by kernel_rfl) (stable_cons (isV_up _) (stable_cons (isV_up _) (stable_nil _))) (Ext.start wz) ?_
                repeat (
                  refine' walkR_plain (by kernel_rfl) rfl rfl (fun wx hC hL => ?_) ?_
                  rotate_left
                  · (have hlx := Nat.lt_of_lt_of_le lx (Below.size hC)
                     simp only [X0 wx hC, X1 wx hC, hlx, go_sem]; first | done | (go_simp; exact ⟨rfl, rfl⟩))
                  simp only [Act.put, List.setIfInBounds_toArray, List.set_cons_zero, List.set_cons_succ])
                refine walkR_rel (by kernel_rfl) rfl rfl (of_decide_eq_true (by kernel_rfl)) (fun wx hC hL => ?_) (fun v hv => ?_)
                · go_simp
                  exact C1.out wx hC
                obtain ⟨_, _, rfl⟩ := hv
                simp only [Act.put, List.setIfInBounds_toArray, List.set_cons_zero, List.set_cons_succ]
                repeat (
                  refine' walkR_plain (by kernel_rfl) rfl rfl (fun wx hC hL => ?_) ?_
                  rotate_left
                  · (have hlx := Nat.lt_of_lt_of_le lx (Below.size hC)
                     simp only [X0 wx hC, X1 wx hC, hlx, go_sem]; first | done | (go_simp; exact ⟨rfl, rfl⟩))
                  simp only [Act.put, List.setIfInBounds_toArray, List.set_cons_zero, List.set_cons_succ])
                refine walkR_rel (by kernel_rfl) rfl rfl (of_decide_eq_true (by kernel_rfl)) (fun wx hC hL => ?_) (fun v hv => ?_)
                · go_simp
                  exact C2.out wx hC
                obtain ⟨_, _, rfl⟩ := hv
                simp only [Act.put, List.setIfInBounds_toArray, List.set_cons_zero, List.set_cons_succ]
                repeat (
                  refine' walkR_plain (by kernel_rfl) rfl rfl (fun wx hC hL => ?_) ?_
                  rotate_left
                  · (have hlx := Nat.lt_of_lt_of_le lx (Below.size hC)
                     simp only [X0 wx hC, X1 wx hC, hlx, go_sem]; first | done | (go_simp; exact ⟨rfl, rfl⟩))
                  simp only [Act.put, List.setIfInBounds_toArray, List.set_cons_zero, List.set_cons_succ])
                refine fun w14 hE14 _ => ?_
                have HB14 : Hid (Below w13.heap.size w13 w14) := HB4.out.trans (Below.mono hE14 HB4.out.size)
                clear hE14 X0 X1 C1 C2 x0 x1 lx
                go_wp2_with fail
                go_roundw
                case rel => exact ⟨t + 1, by omega, by go_num, HB14.out⟩
                case measure => simp [intOf]; omega
              · obtain rfl : t = 3 := by omega
                have htI : ¬ ((3 : Nat) : Int) < 3 := by decide
                have HB15 := hidIt (HB13.out.trans (Below.mono HB4.out HB13.out.size))
                go_wp2_with fail
                go_roundw
                case rel => exact ⟨k + 1, by omega, by go_num, HB15.out⟩
                case measure => simp [intOf]; omega
          · obtain rfl : k = 3 := by omega
            have hkI : ¬ ((3 : Nat) : Int) < 3 := by decide
            have HB15 := hidIt (HB12.out.trans (Below.mono HB3.out HB12.out.size))
            go_wp2_with fail
            go_roundw
            case rel => exact ⟨j + 1, by omega, by go_num, HB15.out⟩
            case measure => simp [intOf]; omega
      · obtain rfl : j = 3 := by omega
        have hjI : ¬ ((3 : Nat) : Int) < 3 := by decide
        go_wp2_with fail
        refine (awake12_any _).mono ?_
        rintro e w30 ⟨rfl, hb⟩
        have HBF := hidIt ((HBW.out.trans (Below.mono HB1.out HBW.out.size)).trans (Below.mono hb (Nat.le_trans HBW.out.size HB1.out.size)))
        clear hb
        go_wp2_with fail
        go_ret
        exact ⟨rfl, HBF.out⟩)
end Go.Proofs.Ytghnojmaciljoaa
