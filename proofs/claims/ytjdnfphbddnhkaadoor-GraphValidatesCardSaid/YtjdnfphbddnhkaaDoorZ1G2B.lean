/- The law GraphValidates: for any two graphs, nodes and numbers it answers true. -/
import Derived.Test.YtjdnfphbddnhkaaDoorZ1G2A
import Derived.Test.YtjdnfphbddnhkaaDoorG1J

namespace Go.Proofs.YtjdnfphbddnhkaaDoor
set_option linter.unusedVariables false
set_option linter.unusedSimpArgs false
open Go Go.RowKit Go.Sort

set_option maxRecDepth 100000 in
set_option maxHeartbeats 8000000 in
theorem validates_walk (n1 : Int) (v1 : Value) (p1 : List (Int × Int)) (n2 : Int) (v2 : Value) (p2 : List (Int × Int)) (i k : Int) (lv : Value) (zs : List Int) (w : World) (h1 : PairsAt w v1 p1) (h2 : PairsAt w v2 p2) (hz : IntsAt w w.heap.size lv zs) (hT : Tab w) :
    Calls Tryd.prog 3 #[.agg #[.int .i64 n1, v1], .agg #[.int .i64 n2, v2], .int .i64 i, .int .i64 k, lv] w fun e w' => e = .returned (.bool true) ∧ Below w.heap.size w w' := by
  have HT := hidIt hT
  have HZ := hidIt hz
  obtain ⟨⟨hX, hY⟩, hB⟩ := two_boxes w (.cells #[.int .i64 n1, v1] 24) (.cells #[.int .i64 n2, v2] 24)
  have HP1 := hidIt (h1.below hB)
  have HP2 := hidIt (h2.below hB)
  obtain ⟨a1, c1, rfl, -⟩ := h1.form
  obtain ⟨a2, c2, rfl, -⟩ := h2.form
  have HX := hidIt hX
  have HY := hidIt hY
  have HB := hidIt hB
  have hsw : (w.alloc (.cells #[.int .i64 n1, .slice a1 p1.length c1] 24)).heap.size = w.heap.size + 1 := by simp
  clear h1 h2 hz hT hX hY hB
  go_enter Tryd.func3, Tryd.ntmps3
  go_upto_region 1 with (fail)
  clear hsw
  generalize hw0 : ((w.alloc (.cells #[.int .i64 n1, .slice a1 p1.length c1] 24)).alloc (.cells #[.int .i64 n2, .slice a2 p2.length c2] 24)) = w0 at *
  have hsz0 : w0.heap.size = w.heap.size + 2 := by rw [← hw0]; simp
  clear hw0
  obtain ⟨x0, x1⟩ := And.intro (cell_two0 HX.out) (cell_two1 HX.out)
  have lx := lt_of_block HX.out
  obtain ⟨y0, y1⟩ := And.intro (cell_two0 HY.out) (cell_two1 HY.out)
  have ly := lt_of_block HY.out
  by_cases la : 100 < p1.length
  · have la' : (100 : Int) < (p1.length : Int) := by omega
    go_wp2_with fail
    go_ret
    exact ⟨rfl, HB.out⟩
  have la' : ¬ (100 : Int) < (p1.length : Int) := by omega
  by_cases lb : 100 < p2.length
  · have lb' : (100 : Int) < (p2.length : Int) := by omega
    go_wp2_with fail
    go_ret
    exact ⟨rfl, HB.out⟩
  have lb' : ¬ (100 : Int) < (p2.length : Int) := by omega
  have HL1 : Hid (p1.length ≤ 100) := by show _ ≤ _; omega
  have HL2 : Hid (p2.length ≤ 100) := by show _ ≤ _; omega
  clear la lb
  go_wp2_with fail
  clear la' lb'
  have hz0 : IntsAt w0 w0.heap.size lv zs := by
    rcases HZ.out with h | ⟨x, cap, e1, e2, e3, e5, e6⟩
    · exact .inl h
    · refine .inr ⟨x, cap, e1, e2, e3, fun i hi => ?_, e6⟩
      obtain ⟨db, off, e, hd, hc⟩ := e5 i hi
      exact ⟨db, off, e, by omega, (Below.cell (p := ⟨db, off + i, none⟩) HB.out hd).trans hc⟩
  refine (new_any lv zs w0.heap.size w0 hz0 (Nat.le_refl _)).mono ?_
  rintro e w1 ⟨zs', rfl, hs1, o1, rfl⟩
  have HS1 := hidIt hs1
  have hb1 := bgrow w0 o1
  have HB1 := hidIt (HB.out.trans (Below.mono hb1 HB.out.size))
  have HX1 := hidIt (blk_kept2 HX.out hb1)
  have HY1 := hidIt (blk_kept2 HY.out hb1)
  have HP11 := hidIt (HP1.out.below hb1)
  have HP21 := hidIt (HP2.out.below hb1)
  have hsz1 : w0.heap.size < (w0.alloc o1).heap.size := hs1.lt
  clear hs1 hb1 hz0 HZ HX HY HP1 HP2 HB x0 x1 y0 y1 lx ly
  generalize w0.alloc o1 = w1 at *
  rw [hsz0] at HS1 hsz1 ⊢
  go_wp2_with fail
  refine (kGraph_any 8 (by decide) _ _ _ _ w1 HS1.out).mono ?_
  rintro e w2 ⟨N, ps, ga, gc, k2, rfl, hN, hok, hpl, hop, hs2, hg2⟩
  have HPL := hidIt hpl
  have HPL64 : Hid (ps.length ≤ 999) := by
    show _ ≤ _
    have := pairs_few hok hN
    omega
  have hgr := bgrow w2 (.cells #[.int .i64 (N : Int), .slice ga ps.length gc] 24)
  have hp1k := (PX.of HP11.out HS1.out).keep hg2
  have hp2k := (PX.of HP21.out HS1.out).keep hg2
  have HS3 := hidIt (hs2.alloc (.cells #[.int .i64 (N : Int), .slice ga ps.length gc] 24))
  have HPg := hidIt (PX.of (hop.below hgr).lits HS3.out)
  have HPa := hidIt (hp1k.go hgr)
  have HPb := hidIt (hp2k.go hgr)
  have HZ3 := hidIt (heap_alloc_new w2 (.cells #[.int .i64 (N : Int), .slice ga ps.length gc] 24))
  have HX3 := hidIt (blk_kept2 (blk_read HX1.out hg2 (by omega)) hgr)
  have HY3 := hidIt (blk_kept2 (blk_read HY1.out hg2 (by omega)) hgr)
  have hsz2 : w.heap.size + 2 < w2.heap.size := Nat.lt_of_lt_of_le hsz1 hg2.size
  have hB2 : Below w.heap.size w w2 := ⟨hg2.os.trans HB1.out.os, hg2.tape.trans HB1.out.tape, hg2.output.trans HB1.out.output, Nat.le_trans HB1.out.size hg2.size, fun j hj => (hg2.block j (by omega) (fun e => by injection e with e; omega)).trans (HB1.out.block j hj)⟩
  have HB3 := hidIt (hB2.trans (Below.mono hgr (by omega)))
  clear hok hpl hop hs2 hg2 hgr hp1k hp2k hB2 HS1 HB1 HX1 HY1 HP11 HP21
  go_upto_region 5 with (fail)
  generalize hw3 : (w2.alloc (.cells #[.int .i64 (N : Int), .slice ga ps.length gc] 24)) = w3 at *
  have hsz3 : w2.heap.size < w3.heap.size := by rw [← hw3, World.size_alloc]; omega
  clear hw3
  generalize w2.heap.size = G at *
  obtain ⟨x0, x1⟩ := And.intro (cell_two0 HX3.out) (cell_two1 HX3.out)
  have lx := lt_of_block HX3.out
  obtain ⟨y0, y1⟩ := And.intro (cell_two0 HY3.out) (cell_two1 HY3.out)
  have ly := lt_of_block HY3.out
  obtain ⟨z0, z1⟩ := And.intro (cell_two0 HZ3.out) (cell_two1 HZ3.out)
  have lz := lt_of_block HZ3.out
  have hbb : w.heap.size + 2 < w3.heap.size := HS3.out.lt
  have hxb : w.heap.size ≠ w.heap.size + 2 := by omega
  have hyb : w.heap.size + 1 ≠ w.heap.size + 2 := by omega
  have hzb : G ≠ w.heap.size + 2 := by omega
  generalize hbq : w.heap.size + 2 = b at HS3 HPa HPb HPg hxb hyb hzb hbb ⊢
  have X0 : ∀ wx, Own.CB w3 b b zs' wx → wx.cell? ⟨w.heap.size, 0, none⟩ = some (.int .i64 n1) := fun wx hC => hC.cell x0 hxb
  have X1 : ∀ wx, Own.CB w3 b b zs' wx → wx.cell? ⟨w.heap.size, 1, none⟩ = some (.slice a1 p1.length c1) := fun wx hC => hC.cell x1 hxb
  have Y0 : ∀ wx, Own.CB w3 b b zs' wx → wx.cell? ⟨w.heap.size + 1, 0, none⟩ = some (.int .i64 n2) := fun wx hC => hC.cell y0 hyb
  have Y1 : ∀ wx, Own.CB w3 b b zs' wx → wx.cell? ⟨w.heap.size + 1, 1, none⟩ = some (.slice a2 p2.length c2) := fun wx hC => hC.cell y1 hyb
  have Z0 : ∀ wx, Own.CB w3 b b zs' wx → wx.cell? ⟨G, 0, none⟩ = some (.int .i64 (N : Int)) := fun wx hC => hC.cell z0 hzb
  have Z1 : ∀ wx, Own.CB w3 b b zs' wx → wx.cell? ⟨G, 1, none⟩ = some (.slice ga ps.length gc) := fun wx hC => hC.cell z1 hzb
  have HCC : Hid (∀ wx, Own.CB w3 b b zs' wx → Calls Tryd.prog 9 #[.agg #[.int .i64 n1, .slice a1 p1.length c1], .int .i64 6] wx fun e w'' => ∃ u, e = .returned u ∧ Own.CB w3 b b zs' w'' ∧ Own.GB b wx w'' ∧ Own.relR (Own.rA (Own.isGx b (cutN n1) (p1.take 60))) wx u w'') := fun wx hC =>
    Own.callB hC ((kCut_any n1 _ p1 wx (HPa.out.keep hC.1).1 (by have := HL1.out; omega)).mono fun e w' ⟨v', h1, h2, h3⟩ => by
      obtain ⟨q, hq⟩ := hC.2
      have hq' := hq.grow (only_of_below h3 none)
      obtain ⟨a', c', rfl, -⟩ := h2.form
      exact ⟨_, h1, ⟨a', c', rfl, PX.of h2 hq'⟩, ⟨q, hq'⟩, only_of_below h3 _⟩)
  have HCS : Hid (∀ wx, Own.CB w3 b b zs' wx → Calls Tryd.prog 10 #[.pointer (some ⟨b, 0, none⟩), .agg #[.int .i64 (N : Int), .slice ga ps.length gc]] wx fun e w'' => ∃ u, e = .returned u ∧ Own.CB w3 b b zs' w'' ∧ Own.GB b wx w'' ∧ Own.relR (Own.rA (Own.isGy b 1000)) wx u w'') := fun wx hC => by
    obtain ⟨q, hq⟩ := hC.2
    exact Own.callB hC ((kSpoiltGraph_any (N : Int) _ ps b b zs' q wx (HPg.out.keep hC.1).1 (by have := HPL.out; omega) hq).mono fun e w' ⟨n, qs, a, c, k', h1, h2, h3, h4, h5⟩ => ⟨_, h1, ⟨n, qs, by have := HPL64.out; omega, a, c, rfl, PX.of h3.lits h4⟩, ⟨k', h4⟩, h5⟩)
  have HQ2 : Hid ((p1.take 60).length ≤ 100) := by show _ ≤ _; have := HL1.out; rw [List.length_take]; omega
  generalize p1.take 60 = q2 at HCC HQ2
  generalize cutN n1 = m2 at HCC
  haveI : Nonempty (In (Own.CB w3 b b zs')) := ⟨⟨w3, Own.CB.one _ _ _ _ _ HS3.out⟩⟩
  refine Own.wp_region_rel (Own.CB w3 b b zs') (Own.GB b) (Own.relTab [(36, Own.rA (Own.isGx b m2 q2)), (40, Own.rA (Own.isGy b 1000)), (42, Own.rA (Own.isFive b))]) (by kernel_rfl) (by kernel_rfl) (by kernel_rfl) (Own.stableB_cons (Own.isGx_up _ _ _) (Own.stableB_cons (Own.isGy_up _ _) (Own.stableB_cons (Own.isFive_up _) (Own.stableB_nil _ _)))) (Own.CB.start HS3.out) ?_
  repeat (
    refine' Own.walkR_plain (by kernel_rfl) rfl rfl (fun wx hC hL => ?_) ?_
    rotate_left
    · (have hlw := hC.1.size
       have hlx := Nat.lt_of_lt_of_le lx hlw
       have hly := Nat.lt_of_lt_of_le ly hlw
       have hlz := Nat.lt_of_lt_of_le lz hlw
       simp only [X0 wx hC, X1 wx hC, Y0 wx hC, Y1 wx hC, Z0 wx hC, Z1 wx hC, hlx, hly, hlz, go_sem]; first | done | (go_simp; exact ⟨rfl, rfl⟩))
    simp only [Act.put, List.setIfInBounds_toArray, List.set_cons_zero, List.set_cons_succ])
  refine Own.walkR_rel (by kernel_rfl) rfl rfl (of_decide_eq_true (by kernel_rfl)) (fun wx hC hL => ?_) (fun v hv => ?_)
  · go_simp
    exact HCC.out wx hC
  obtain ⟨_, _, a36, c36, rfl, -⟩ := hv
  simp only [Act.put, List.setIfInBounds_toArray, List.set_cons_zero, List.set_cons_succ]
  repeat (
    refine' Own.walkR_plain (by kernel_rfl) rfl rfl (fun wx hC hL => ?_) ?_
    rotate_left
    · (have hlw := hC.1.size
       have hlx := Nat.lt_of_lt_of_le lx hlw
       have hly := Nat.lt_of_lt_of_le ly hlw
       have hlz := Nat.lt_of_lt_of_le lz hlw
       simp only [X0 wx hC, X1 wx hC, Y0 wx hC, Y1 wx hC, Z0 wx hC, Z1 wx hC, hlx, hly, hlz, go_sem]; first | done | (go_simp; exact ⟨rfl, rfl⟩))
    simp only [Act.put, List.setIfInBounds_toArray, List.set_cons_zero, List.set_cons_succ])
  refine Own.walkR_rel (by kernel_rfl) rfl rfl (of_decide_eq_true (by kernel_rfl)) (fun wx hC hL => ?_) (fun v hv => ?_)
  · go_simp
    exact HCS.out wx hC
  obtain ⟨_, _, n40, p40, -, a40, c40, rfl, -⟩ := hv
  generalize p40.length = m40
  simp only [Act.put, List.setIfInBounds_toArray, List.set_cons_zero, List.set_cons_succ]
  repeat (
    refine' Own.walkR_plain (by kernel_rfl) rfl rfl (fun wx hC hL => ?_) ?_
    rotate_left
    · (have hlw := hC.1.size
       have hlx := Nat.lt_of_lt_of_le lx hlw
       have hly := Nat.lt_of_lt_of_le ly hlw
       have hlz := Nat.lt_of_lt_of_le lz hlw
       simp only [X0 wx hC, X1 wx hC, Y0 wx hC, Y1 wx hC, Z0 wx hC, Z1 wx hC, hlx, hly, hlz, go_sem]; first | done | (go_simp; exact ⟨rfl, rfl⟩))
    simp only [Act.put, List.setIfInBounds_toArray, List.set_cons_zero, List.set_cons_succ])
  refine Own.walkR_rel (by kernel_rfl) rfl rfl (of_decide_eq_true (by kernel_rfl)) (fun wx hC hL => ?_) (fun v hv => ?_)
  · have h36 : Own.isGx b m2 q2 (.agg #[.int .i64 m2, .slice a36 q2.length c36]) wx := hL.get 36 (by simp [Own.more]) (by kernel_rfl) rfl rfl
    have h40 : Own.isGy b 1000 (.agg #[.int .i64 n40, .slice a40 m40 c40]) wx := hL.get 40 (by simp [Own.more]) (by kernel_rfl) rfl rfl
    obtain ⟨-, k2⟩ := Own.isGx_use h36
    obtain ⟨n4, p4, k4l, h4⟩ := h40
    obtain ⟨rfl, k4⟩ := Own.isGx_use h4
    have hbw : b < wx.heap.size := Nat.lt_of_lt_of_le hbb hC.1.size
    have key := hidIt (gsx_blk (n1 := n1) (n2 := m2) (n3 := (N : Int)) (n4 := n40) (n5 := n2) hbw (HPa.out.keep hC.1) k2 (HPg.out.keep hC.1) k4 (HPb.out.keep hC.1) (by have := HL1.out; omega) (by have := HQ2.out; omega) (by have := HPL.out; omega) k4l (by have := HL2.out; omega) 24)
    clear h36 h4 k2 k4 k4l
    go_simp
    exact ⟨hC.grown (bgrow wx _), only_of_below (bgrow wx _) _, ⟨_, _, rfl, rfl, key.out⟩, fun h => by cases h⟩
  obtain ⟨_, _, g5, gs, rfl, hgl, -⟩ := hv
  simp only [Act.put, List.setIfInBounds_toArray, List.set_cons_zero, List.set_cons_succ]
  repeat (
    refine' Own.walkR_plain (by kernel_rfl) rfl rfl (fun wx hC hL => ?_) ?_
    rotate_left
    · (have hlw := hC.1.size
       simp only [X0 wx hC, X1 wx hC, go_sem]; first | done | (go_simp; exact ⟨rfl, rfl⟩))
    simp only [Act.put, List.setIfInBounds_toArray, List.set_cons_zero, List.set_cons_succ])
  refine fun w5 hC5 hK => ?_
  obtain ⟨g5', gs, e42, hgl, hgx⟩ : Own.isFive b (.slice (some ⟨g5, 0, none⟩) 5 5) w5 := hK.get 42 (by simp [Own.more]) rfl rfl
  injection e42 with e42
  injection e42 with e42
  injection e42 with e42
  subst e42
  have HGS := hidIt hgx.gs
  have HGL := hidIt hgl
  have HB5 := hidIt (below_app5 HB3.out hC5.1 (fun g e => by injection e with e; omega) (by omega))
  have HT5 := hidIt (HT.out.go HB5.out)
  clear hK hC5 hgx hgl X0 X1 Y0 Y1 Z0 Z1 HCC HCS HB3 HX3 HY3 HZ3 HPa HPb HPg HS3 HPL HPL64 HL1 HL2 HQ2 HT x0 x1 y0 y1 z0 z1 lx ly lz
  go_upto_region 7 with (fail)
  go_loopw [15, 17, 19, 45, 76, 120] (fun _ _ _ vi _ _ wr => ∃ j : Nat, j ≤ 5 ∧ vi = .int .i64 (j : Int) ∧ Hid (Below w5.heap.size w5 wr)) (fun _ _ _ vi _ _ _ => 5 - (intOf vi).toNat)
  case atStart => exact ⟨0, Nat.zero_le _, (by first | rfl | trivial), Below.refl _ _⟩
  case round =>
    obtain ⟨j, hj, rfl, HB⟩ := hrel
    have hj0 : (0 : Int) ≤ (j : Int) := by omega
    by_cases hjl : j < 5
    · have hjI : (j : Int) < 5 := by omega
      have hjg : j < gs.length := by have := HGL.out; omega
      have HGr := hidIt (HGS.out.go HB.out)
      obtain ⟨hql, ga, gc, g0, g1, hqp⟩ := HGr.out.2 j hjg
      have lg := HGr.out.1
      generalize gs[j].2 = q at *
      generalize gs[j].1 = n at *
      have HQL := hidIt hql
      have hgz := bgrow wr (.cells #[.int .i64 n, .slice ga q.length gc] 24)
      have HQ := hidIt (hqp.below hgz)
      have HX := hidIt (heap_alloc_new wr (.cells #[.int .i64 n, .slice ga q.length gc] 24))
      have HGz := hidIt (HGr.out.go hgz)
      have HBz := hidIt (HB.out.trans (Below.mono hgz HB.out.size))
      have HTz := hidIt (HT5.out.go HBz.out)
      clear hql hqp hgz
      go_upto_region 9 with (fail)
      clear g0 g1 lg
      generalize (wr.alloc (.cells #[.int .i64 n, .slice ga q.length gc] 24)) = wz at *
      generalize wr.heap.size = X at *
      obtain ⟨x0, x1⟩ := And.intro (cell_two0 HX.out) (cell_two1 HX.out)
      have lx := lt_of_block HX.out
      have QL6 : q.length ≤ 1000000 := by have := HQL.out; omega
      have QL3 : q.length ≤ 1000 := HQL.out
      have HRL : Hid ((rvL n q).length ≤ 1000000) := by show _ ≤ _; have := rvL_len n q; omega
      have CV1 : Hid (∀ wx, Ext wz wx → Calls Tryd.prog 11 #[.agg #[.int .i64 n, .slice ga q.length gc]] wx fun e w'' => ∃ u, e = .returned u ∧ Ext wz w'' ∧ Grows wx w'' ∧ isVq (.int .i64 (valE n q)) u w'') := fun wx hC => rel_call hC ((gValidate_any n _ q wx (HQ.out.below hC) QL6).mono fun e w'' ⟨h1, h2⟩ => ⟨_, h1, rfl, h2⟩)
      have CV2 : Hid (∀ wx, Ext wz wx → Calls Tryd.prog 12 #[.agg #[.int .i64 n, .slice ga q.length gc]] wx fun e w'' => ∃ u, e = .returned u ∧ Ext wz w'' ∧ Grows wx w'' ∧ isVq (.int .i64 (valE n q)) u w'') := fun wx hC => rel_call hC ((rgValidate_any n _ q wx (HQ.out.below hC) QL6).mono fun e w'' ⟨h1, h2⟩ => ⟨_, h1, rfl, h2⟩)
      have CH1 : Hid (∀ wx, Ext wz wx → Calls Tryd.prog 13 #[.agg #[.int .i64 n, .slice ga q.length gc], .int .i64 i, .int .i64 k] wx fun e w'' => ∃ u, e = .returned u ∧ Ext wz w'' ∧ Grows wx w'' ∧ isB (decide ((i, k) ∈ vL n q)) u w'') := fun wx hC => rel_call hC ((gHas_any n _ q i k wx (HQ.out.below hC) QL6).mono fun e w'' ⟨h1, h2⟩ => ⟨_, h1, rfl, h2⟩)
      have CH2 : Hid (∀ wx, Ext wz wx → Calls Tryd.prog 14 #[.agg #[.int .i64 n, .slice ga q.length gc], .int .i64 i, .int .i64 k] wx fun e w'' => ∃ u, e = .returned u ∧ Ext wz w'' ∧ Grows wx w'' ∧ isB (decide ((i, k) ∈ vL n q)) u w'') := fun wx hC => rel_call hC ((rgHas_any n _ q i k wx (HQ.out.below hC) QL6).mono fun e w'' ⟨h1, h2⟩ => ⟨_, h1, rfl, h2⟩)
      have CR1 : Hid (∀ wx, Ext wz wx → Calls Tryd.prog 16 #[.agg #[.int .i64 n, .slice ga q.length gc]] wx fun e w'' => ∃ u, e = .returned u ∧ Ext wz w'' ∧ Grows wx w'' ∧ isGq (vN n q) (rvL n q) u w'') := fun wx hC => rel_call hC ((gReverse_any n _ q wx (HQ.out.below hC) QL3).mono fun e w'' ⟨v, h1, h2, h3⟩ => ⟨_, h1, isGq_of h2, h3⟩)
      have CR2 : Hid (∀ wx, Ext wz wx → Calls Tryd.prog 17 #[.agg #[.int .i64 n, .slice ga q.length gc]] wx fun e w'' => ∃ u, e = .returned u ∧ Ext wz w'' ∧ Grows wx w'' ∧ isGq (vN n q) (rvL n q) u w'') := fun wx hC => rel_call hC ((rgReverse_any n _ q wx (HQ.out.below hC) QL3).mono fun e w'' ⟨v, h1, h2, h3⟩ => ⟨_, h1, isGq_of h2, h3⟩)
      have CS : Hid (∀ wx a1 c1 a2 c2, Ext wz wx → PairsAt wx (.slice a1 (rvL n q).length c1) (rvL n q) → PairsAt wx (.slice a2 (rvL n q).length c2) (rvL n q) → Calls Tryd.prog 15 #[.agg #[.int .i64 (vN n q), .slice a1 (rvL n q).length c1], .agg #[.int .i64 (vN n q), .slice a2 (rvL n q).length c2]] wx fun e w'' => ∃ u, e = .returned u ∧ Ext wz w'' ∧ Grows wx w'' ∧ isB true u w'') := fun wx a1 c1 a2 c2 hC h1 h2 => rel_call hC ((rgSame_any _ _ _ _ _ _ wx h1 h2 HRL.out HRL.out).mono fun e w'' ⟨h3, h4⟩ => ⟨_, h3, (by rw [sameB_self]; rfl), h4⟩)
      generalize valE n q = E at CV1 CV2
      generalize decide ((i, k) ∈ vL n q) = H at CH1 CH2
      generalize rvL n q = rl at CR1 CR2 CS HRL
      generalize vN n q = rn at CR1 CR2 CS
      have X0 : ∀ wx, Ext wz wx → wx.cell? ⟨X, 0, none⟩ = some (.int .i64 n) := fun wx hC => (Below.cell (p := ⟨X, 0, none⟩) hC lx).trans x0
      have X1 : ∀ wx, Ext wz wx → wx.cell? ⟨X, 1, none⟩ = some (.slice ga q.length gc) := fun wx hC => (Below.cell (p := ⟨X, 1, none⟩) hC lx).trans x1
      haveI := Ext.nonempty wz
      refine wp_region_rel (Ext wz) Grows (relTab [(50, isVq (.int .i64 E)), (52, isVq (.int .i64 E)), (58, isB H), (62, isB H), (67, isGq rn rl), (69, isGq rn rl), (70, isB true)]) (by kernel_rfl) (by kernel_rfl) (by kernel_rfl) (stable_cons (isVq_up _) (stable_cons (isVq_up _) (stable_cons (isB_up _) (stable_cons (isB_up _) (stable_cons (isGq_up _ _) (stable_cons (isGq_up _ _) (stable_cons (isB_up _) (stable_nil _)))))))) (Ext.start wz) ?_
      repeat (
        refine' walkR_plain (by kernel_rfl) rfl rfl (fun wx hC hL => ?_) ?_
        rotate_left
        · (have hls := Below.size hC
           have hllx := Nat.lt_of_lt_of_le lx hls
           simp only [X0 wx hC, X1 wx hC, hllx, go_sem]; first | done | (go_simp; exact ⟨rfl, rfl⟩))
        simp only [Act.put, List.setIfInBounds_toArray, List.set_cons_zero, List.set_cons_succ])
      refine walkR_rel (by kernel_rfl) rfl rfl (of_decide_eq_true (by kernel_rfl)) (fun wx hC hL => ?_) (fun v hv => ?_)
      · go_simp
        exact CV1.out wx hC
      obtain ⟨_, _, rfl⟩ := hv
      simp only [Act.put, List.setIfInBounds_toArray, List.set_cons_zero, List.set_cons_succ]
      repeat (
        refine' walkR_plain (by kernel_rfl) rfl rfl (fun wx hC hL => ?_) ?_
        rotate_left
        · (have hls := Below.size hC
           have hllx := Nat.lt_of_lt_of_le lx hls
           simp only [X0 wx hC, X1 wx hC, hllx, go_sem]; first | done | (go_simp; exact ⟨rfl, rfl⟩))
        simp only [Act.put, List.setIfInBounds_toArray, List.set_cons_zero, List.set_cons_succ])
      refine walkR_rel (by kernel_rfl) rfl rfl (of_decide_eq_true (by kernel_rfl)) (fun wx hC hL => ?_) (fun v hv => ?_)
      · go_simp
        exact CV2.out wx hC
      obtain ⟨_, _, rfl⟩ := hv
      simp only [Act.put, List.setIfInBounds_toArray, List.set_cons_zero, List.set_cons_succ]
      repeat (
        refine' walkR_plain (by kernel_rfl) rfl rfl (fun wx hC hL => ?_) ?_
        rotate_left
        · (have hls := Below.size hC
           have hllx := Nat.lt_of_lt_of_le lx hls
           simp only [X0 wx hC, X1 wx hC, hllx, go_sem]; first | done | (go_simp; exact ⟨rfl, rfl⟩))
        simp only [Act.put, List.setIfInBounds_toArray, List.set_cons_zero, List.set_cons_succ])
      refine walkR_rel (by kernel_rfl) rfl rfl (of_decide_eq_true (by kernel_rfl)) (fun wx hC hL => ?_) (fun v hv => ?_)
      · go_simp
        exact CH1.out wx hC
      obtain ⟨_, _, rfl⟩ := hv
      simp only [Act.put, List.setIfInBounds_toArray, List.set_cons_zero, List.set_cons_succ]
      repeat (
        refine' walkR_plain (by kernel_rfl) rfl rfl (fun wx hC hL => ?_) ?_
        rotate_left
        · (have hls := Below.size hC
           have hllx := Nat.lt_of_lt_of_le lx hls
           simp only [X0 wx hC, X1 wx hC, hllx, go_sem]; first | done | (go_simp; exact ⟨rfl, rfl⟩))
        simp only [Act.put, List.setIfInBounds_toArray, List.set_cons_zero, List.set_cons_succ])
      refine walkR_rel (by kernel_rfl) rfl rfl (of_decide_eq_true (by kernel_rfl)) (fun wx hC hL => ?_) (fun v hv => ?_)
      · go_simp
        exact CH2.out wx hC
      obtain ⟨_, _, rfl⟩ := hv
      simp only [Act.put, List.setIfInBounds_toArray, List.set_cons_zero, List.set_cons_succ]
      repeat (
        refine' walkR_plain (by kernel_rfl) rfl rfl (fun wx hC hL => ?_) ?_
        rotate_left
        · (have hls := Below.size hC
           have hllx := Nat.lt_of_lt_of_le lx hls
           simp only [X0 wx hC, X1 wx hC, hllx, go_sem]; first | done | (go_simp; exact ⟨rfl, rfl⟩))
        simp only [Act.put, List.setIfInBounds_toArray, List.set_cons_zero, List.set_cons_succ])
      refine walkR_rel (by kernel_rfl) rfl rfl (of_decide_eq_true (by kernel_rfl)) (fun wx hC hL => ?_) (fun v hv => ?_)
      · go_simp
        exact CR1.out wx hC
      obtain ⟨_, _, a67, c67, rfl, -⟩ := hv
      simp only [Act.put, List.setIfInBounds_toArray, List.set_cons_zero, List.set_cons_succ]
      repeat (
        refine' walkR_plain (by kernel_rfl) rfl rfl (fun wx hC hL => ?_) ?_
        rotate_left
        · (have hls := Below.size hC
           have hllx := Nat.lt_of_lt_of_le lx hls
           simp only [X0 wx hC, X1 wx hC, hllx, go_sem]; first | done | (go_simp; exact ⟨rfl, rfl⟩))
        simp only [Act.put, List.setIfInBounds_toArray, List.set_cons_zero, List.set_cons_succ])
      refine walkR_rel (by kernel_rfl) rfl rfl (of_decide_eq_true (by kernel_rfl)) (fun wx hC hL => ?_) (fun v hv => ?_)
      · go_simp
        exact CR2.out wx hC
      obtain ⟨_, _, a69, c69, rfl, -⟩ := hv
      simp only [Act.put, List.setIfInBounds_toArray, List.set_cons_zero, List.set_cons_succ]
      repeat (
        refine' walkR_plain (by kernel_rfl) rfl rfl (fun wx hC hL => ?_) ?_
        rotate_left
        · (have hls := Below.size hC
           have hllx := Nat.lt_of_lt_of_le lx hls
           simp only [X0 wx hC, X1 wx hC, hllx, go_sem]; first | done | (go_simp; exact ⟨rfl, rfl⟩))
        simp only [Act.put, List.setIfInBounds_toArray, List.set_cons_zero, List.set_cons_succ])
      refine walkR_rel (by kernel_rfl) rfl rfl (of_decide_eq_true (by kernel_rfl)) (fun wx hC hL => ?_) (fun v hv => ?_)
      · have k67 := hidIt (isGq_use (ps := rl) (hL.get 67 (by simp [more]) (by kernel_rfl) rfl rfl))
        have k69 := hidIt (isGq_use (ps := rl) (hL.get 69 (by simp [more]) (by kernel_rfl) rfl rfl))
        go_simp
        exact CS.out wx a67 c67 a69 c69 hC k67.out k69.out
      obtain ⟨_, _, rfl⟩ := hv
      simp only [Act.put, List.setIfInBounds_toArray, List.set_cons_zero, List.set_cons_succ]
      repeat (
        refine' walkR_plain (by kernel_rfl) rfl rfl (fun wx hC hL => ?_) ?_
        rotate_left
        · (have hls := Below.size hC
           have hllx := Nat.lt_of_lt_of_le lx hls
           simp only [X0 wx hC, X1 wx hC, hllx, go_sem]; first | done | (go_simp; exact ⟨rfl, rfl⟩))
        simp only [Act.put, List.setIfInBounds_toArray, List.set_cons_zero, List.set_cons_succ])
      refine fun w9 hC9 hK => ?_
      have hb9 : Below wz.heap.size wz w9 := hC9
      have HB9 := hidIt (HBz.out.trans (Below.mono hb9 HBz.out.size))
      have hg11 := bgrow w9 (.cells #[.int .i64 i, .int .i64 (-1), .int .i64 0, .int .i64 1, .int .i64 2, .int .i64 3, .int .i64 7, .int .i64 8] 3)
      have HE := hidIt (Eight.of (heap_alloc_new w9 (.cells #[.int .i64 i, .int .i64 (-1), .int .i64 0, .int .i64 1, .int .i64 2, .int .i64 3, .int .i64 7, .int .i64 8] 3)))
      have hbz := hb9.trans (Below.mono hg11 hb9.size)
      have HB11 := hidIt (HBz.out.trans (Below.mono hbz HBz.out.size))
      have HX11 := hidIt (blk_kept2 HX.out hbz)
      have HQ11 := hidIt (HQ.out.below hbz)
      have HG11 := hidIt (HGz.out.go hbz)
      have HT11 := hidIt (HTz.out.go hbz)
      clear hK hC9 hb9 hg11 hbz HB9 X0 X1 x0 x1 lx CV1 CV2 CH1 CH2 CR1 CR2 CS HRL HX HQ HGz HTz HBz HB HGr
      go_upto_region 12 with (fail)
      generalize (w9.alloc (.cells #[.int .i64 i, .int .i64 (-1), .int .i64 0, .int .i64 1, .int .i64 2, .int .i64 3, .int .i64 7, .int .i64 8] 3)) = w11 at *
      generalize w9.heap.size = Q at *
      go_loopw [17, 76] (fun _ vm wr => ∃ m : Nat, m ≤ 8 ∧ vm = .int .i64 (m : Int) ∧ Hid (Below w11.heap.size w11 wr)) (fun _ vm _ => 8 - (intOf vm).toNat)
      case atStart => exact ⟨0, Nat.zero_le _, (by first | rfl | trivial), Below.refl _ _⟩
      case round =>
        obtain ⟨m, hm, rfl, HB⟩ := hrel
        have hm0 : (0 : Int) ≤ (m : Int) := by omega
        by_cases hml : m < 8
        · have hmI : (m : Int) < 8 := by omega
          have HEr := HE.out.go HB.out
          obtain ⟨x, ex⟩ := HEr.2 m hml
          have le := HEr.1
          have HX := hidIt (blk_kept2 HX11.out HB.out)
          have HQ := hidIt (HQ11.out.below HB.out)
          have HTz := hidIt (HT11.out.go HB.out)
          clear HEr
          go_upto_region 14 with (fail)
          clear ex le
          have hsame : wr = wr := rfl
          clear hsame
          obtain ⟨x0, x1⟩ := And.intro (cell_two0 HX.out) (cell_two1 HX.out)
          have lx := lt_of_block HX.out
          have IL1 : Hid ((inL (vL n q) x).length ≤ 1000000) := by show _ ≤ _; have := inL_len2 n q x; omega
          have IL2 : Hid ((outL (vL n q) x).length ≤ 1000000) := by show _ ≤ _; have := outL_len2 n q x; omega
          have IL3 : Hid ((reachL (vN n q) (vL n q) x).length ≤ 1000000) := by show _ ≤ _; have := reachL_len2 n q x; omega
          have CA1 : Hid (∀ wx, Ext wr wx → Calls Tryd.prog 19 #[.agg #[.int .i64 n, .slice ga q.length gc], .int .i64 x] wx fun e w'' => ∃ u, e = .returned u ∧ Ext wr w'' ∧ Grows wx w'' ∧ isIq (inL (vL n q) x).length (inL (vL n q) x) u w'') := fun wx hC => rel_call hC ((gAttackers_any n _ q x wx (HQ.out.below hC) QL3).mono fun e w'' ⟨v, h1, h2, h3⟩ => ⟨_, h1, isIq_of h2, h3⟩)
          have CA2 : Hid (∀ wx, Ext wr wx → Calls Tryd.prog 20 #[.agg #[.int .i64 n, .slice ga q.length gc], .int .i64 x] wx fun e w'' => ∃ u, e = .returned u ∧ Ext wr w'' ∧ Grows wx w'' ∧ isIq (inL (vL n q) x).length (inL (vL n q) x) u w'') := fun wx hC => rel_call hC ((rgAttackers_any n _ q x wx (HQ.out.below hC) QL3).mono fun e w'' ⟨v, h1, h2, h3⟩ => ⟨_, h1, isIq_of h2, h3⟩)
          have CD1 : Hid (∀ wx, Ext wr wx → Calls Tryd.prog 21 #[.agg #[.int .i64 n, .slice ga q.length gc], .int .i64 x] wx fun e w'' => ∃ u, e = .returned u ∧ Ext wr w'' ∧ Grows wx w'' ∧ isIq (outL (vL n q) x).length (outL (vL n q) x) u w'') := fun wx hC => rel_call hC ((gAttacked_any n _ q x wx (HQ.out.below hC) QL3).mono fun e w'' ⟨v, h1, h2, h3⟩ => ⟨_, h1, isIq_of h2, h3⟩)
          have CD2 : Hid (∀ wx, Ext wr wx → Calls Tryd.prog 22 #[.agg #[.int .i64 n, .slice ga q.length gc], .int .i64 x] wx fun e w'' => ∃ u, e = .returned u ∧ Ext wr w'' ∧ Grows wx w'' ∧ isIq (outL (vL n q) x).length (outL (vL n q) x) u w'') := fun wx hC => rel_call hC ((rgAttacked_any n _ q x wx (HQ.out.below hC) QL3).mono fun e w'' ⟨v, h1, h2, h3⟩ => ⟨_, h1, isIq_of h2, h3⟩)
          have CR1 : Hid (∀ wx, Ext wr wx → Calls Tryd.prog 23 #[.agg #[.int .i64 n, .slice ga q.length gc], .int .i64 x] wx fun e w'' => ∃ u, e = .returned u ∧ Ext wr w'' ∧ Grows wx w'' ∧ isIq (reachL (vN n q) (vL n q) x).length (reachL (vN n q) (vL n q) x) u w'') := fun wx hC => rel_call hC ((gReach_any n _ q x wx (HQ.out.below hC) QL3 (HTz.out.go hC)).mono fun e w'' ⟨v, h1, h2, h3⟩ => ⟨_, h1, isIq_of h2, h3⟩)
          have CR2 : Hid (∀ wx, Ext wr wx → Calls Tryd.prog 24 #[.agg #[.int .i64 n, .slice ga q.length gc], .int .i64 x] wx fun e w'' => ∃ u, e = .returned u ∧ Ext wr w'' ∧ Grows wx w'' ∧ isIq (reachL (vN n q) (vL n q) x).length (reachL (vN n q) (vL n q) x) u w'') := fun wx hC => rel_call hC ((rgReach_any n _ q x wx (HQ.out.below hC) QL3).mono fun e w'' ⟨v, h1, h2, h3⟩ => ⟨_, h1, isIq_of h2, h3⟩)
          have CH1 : Hid (∀ wx, Ext wr wx → Calls Tryd.prog 13 #[.agg #[.int .i64 n, .slice ga q.length gc], .int .i64 x, .int .i64 1] wx fun e w'' => ∃ u, e = .returned u ∧ Ext wr w'' ∧ Grows wx w'' ∧ isB (decide ((x, 1) ∈ vL n q)) u w'') := fun wx hC => rel_call hC ((gHas_any n _ q x 1 wx (HQ.out.below hC) QL6).mono fun e w'' ⟨h1, h2⟩ => ⟨_, h1, rfl, h2⟩)
          have CH2 : Hid (∀ wx, Ext wr wx → Calls Tryd.prog 14 #[.agg #[.int .i64 n, .slice ga q.length gc], .int .i64 x, .int .i64 1] wx fun e w'' => ∃ u, e = .returned u ∧ Ext wr w'' ∧ Grows wx w'' ∧ isB (decide ((x, 1) ∈ vL n q)) u w'') := fun wx hC => rel_call hC ((rgHas_any n _ q x 1 wx (HQ.out.below hC) QL6).mono fun e w'' ⟨h1, h2⟩ => ⟨_, h1, rfl, h2⟩)
          have CK : Hid (∀ (l : List Int) (ll : Nat) wx a1 c1 a2 c2, l.length ≤ 1000000 → Ext wr wx → IL wx (.slice a1 ll c1) l → IL wx (.slice a2 ll c2) l → Calls Tryd.prog 18 #[.slice a1 ll c1, .slice a2 ll c2] wx fun e w'' => ∃ u, e = .returned u ∧ Ext wr w'' ∧ Grows wx w'' ∧ isB true u w'') := fun l ll wx a1 c1 a2 c2 hl hC h1 h2 => rel_call hC ((kInts_any _ _ _ _ wx h1 h2 hl hl).mono fun e w'' ⟨h3, h4⟩ => ⟨_, h3, (by rw [decide_eq_true rfl]; rfl), h4⟩)
          generalize decide ((x, 1) ∈ vL n q) = H2 at CH1 CH2
          generalize inL (vL n q) x = l1 at CA1 CA2 IL1
          generalize outL (vL n q) x = l2 at CD1 CD2 IL2
          generalize reachL (vN n q) (vL n q) x = l3 at CR1 CR2 IL3
          generalize hk1 : l1.length = k1 at CA1 CA2
          generalize hk2 : l2.length = k2 at CD1 CD2
          generalize hk3 : l3.length = k3 at CR1 CR2
          clear hk1 hk2 hk3
          have X0 : ∀ wx, Ext wr wx → wx.cell? ⟨X, 0, none⟩ = some (.int .i64 n) := fun wx hC => (Below.cell (p := ⟨X, 0, none⟩) hC lx).trans x0
          have X1 : ∀ wx, Ext wr wx → wx.cell? ⟨X, 1, none⟩ = some (.slice ga q.length gc) := fun wx hC => (Below.cell (p := ⟨X, 1, none⟩) hC lx).trans x1
          haveI := Ext.nonempty wr
          refine wp_region_rel (Ext wr) Grows (relTab [(82, isIq k1 l1), (85, isIq k1 l1), (86, isB true), (91, isIq k2 l2), (94, isIq k2 l2), (95, isB true), (101, isIq k3 l3), (104, isIq k3 l3), (105, isB true), (111, isB H2), (114, isB H2)]) (by kernel_rfl) (by kernel_rfl) (by kernel_rfl) (stable_cons (isIq_up _ _) (stable_cons (isIq_up _ _) (stable_cons (isB_up _) (stable_cons (isIq_up _ _) (stable_cons (isIq_up _ _) (stable_cons (isB_up _) (stable_cons (isIq_up _ _) (stable_cons (isIq_up _ _) (stable_cons (isB_up _) (stable_cons (isB_up _) (stable_cons (isB_up _) (stable_nil _)))))))))))) (Ext.start wr) ?_
          repeat (
            refine' walkR_plain (by kernel_rfl) rfl rfl (fun wx hC hL => ?_) ?_
            rotate_left
            · (have hls := Below.size hC
               have hllx := Nat.lt_of_lt_of_le lx hls
               simp only [X0 wx hC, X1 wx hC, hllx, go_sem]; first | done | (go_simp; exact ⟨rfl, rfl⟩))
            simp only [Act.put, List.setIfInBounds_toArray, List.set_cons_zero, List.set_cons_succ])
          refine walkR_rel (by kernel_rfl) rfl rfl (of_decide_eq_true (by kernel_rfl)) (fun wx hC hL => ?_) (fun v hv => ?_)
          · go_simp
            exact CA1.out wx hC
          obtain ⟨_, _, a82, c82, rfl, -⟩ := hv
          simp only [Act.put, List.setIfInBounds_toArray, List.set_cons_zero, List.set_cons_succ]
          repeat (
            refine' walkR_plain (by kernel_rfl) rfl rfl (fun wx hC hL => ?_) ?_
            rotate_left
            · (have hls := Below.size hC
               have hllx := Nat.lt_of_lt_of_le lx hls
               simp only [X0 wx hC, X1 wx hC, hllx, go_sem]; first | done | (go_simp; exact ⟨rfl, rfl⟩))
            simp only [Act.put, List.setIfInBounds_toArray, List.set_cons_zero, List.set_cons_succ])
          refine walkR_rel (by kernel_rfl) rfl rfl (of_decide_eq_true (by kernel_rfl)) (fun wx hC hL => ?_) (fun v hv => ?_)
          · go_simp
            exact CA2.out wx hC
          obtain ⟨_, _, a85, c85, rfl, -⟩ := hv
          simp only [Act.put, List.setIfInBounds_toArray, List.set_cons_zero, List.set_cons_succ]
          repeat (
            refine' walkR_plain (by kernel_rfl) rfl rfl (fun wx hC hL => ?_) ?_
            rotate_left
            · (have hls := Below.size hC
               have hllx := Nat.lt_of_lt_of_le lx hls
               simp only [X0 wx hC, X1 wx hC, hllx, go_sem]; first | done | (go_simp; exact ⟨rfl, rfl⟩))
            simp only [Act.put, List.setIfInBounds_toArray, List.set_cons_zero, List.set_cons_succ])
          refine walkR_rel (by kernel_rfl) rfl rfl (of_decide_eq_true (by kernel_rfl)) (fun wx hC hL => ?_) (fun v hv => ?_)
          · have j82 := hidIt (isIq_use (xs := l1) (hL.get 82 (by simp [more]) (by kernel_rfl) rfl rfl))
            have j85 := hidIt (isIq_use (xs := l1) (hL.get 85 (by simp [more]) (by kernel_rfl) rfl rfl))
            go_simp
            exact CK.out l1 _ wx a82 c82 a85 c85 IL1.out hC j82.out j85.out
          obtain ⟨_, _, rfl⟩ := hv
          simp only [Act.put, List.setIfInBounds_toArray, List.set_cons_zero, List.set_cons_succ]
          repeat (
            refine' walkR_plain (by kernel_rfl) rfl rfl (fun wx hC hL => ?_) ?_
            rotate_left
            · (have hls := Below.size hC
               have hllx := Nat.lt_of_lt_of_le lx hls
               simp only [X0 wx hC, X1 wx hC, hllx, go_sem]; first | done | (go_simp; exact ⟨rfl, rfl⟩))
            simp only [Act.put, List.setIfInBounds_toArray, List.set_cons_zero, List.set_cons_succ])
          refine walkR_rel (by kernel_rfl) rfl rfl (of_decide_eq_true (by kernel_rfl)) (fun wx hC hL => ?_) (fun v hv => ?_)
          · go_simp
            exact CD1.out wx hC
          obtain ⟨_, _, a91, c91, rfl, -⟩ := hv
          simp only [Act.put, List.setIfInBounds_toArray, List.set_cons_zero, List.set_cons_succ]
          repeat (
            refine' walkR_plain (by kernel_rfl) rfl rfl (fun wx hC hL => ?_) ?_
            rotate_left
            · (have hls := Below.size hC
               have hllx := Nat.lt_of_lt_of_le lx hls
               simp only [X0 wx hC, X1 wx hC, hllx, go_sem]; first | done | (go_simp; exact ⟨rfl, rfl⟩))
            simp only [Act.put, List.setIfInBounds_toArray, List.set_cons_zero, List.set_cons_succ])
          refine walkR_rel (by kernel_rfl) rfl rfl (of_decide_eq_true (by kernel_rfl)) (fun wx hC hL => ?_) (fun v hv => ?_)
          · go_simp
            exact CD2.out wx hC
          obtain ⟨_, _, a94, c94, rfl, -⟩ := hv
          simp only [Act.put, List.setIfInBounds_toArray, List.set_cons_zero, List.set_cons_succ]
          repeat (
            refine' walkR_plain (by kernel_rfl) rfl rfl (fun wx hC hL => ?_) ?_
            rotate_left
            · (have hls := Below.size hC
               have hllx := Nat.lt_of_lt_of_le lx hls
               simp only [X0 wx hC, X1 wx hC, hllx, go_sem]; first | done | (go_simp; exact ⟨rfl, rfl⟩))
            simp only [Act.put, List.setIfInBounds_toArray, List.set_cons_zero, List.set_cons_succ])
          refine walkR_rel (by kernel_rfl) rfl rfl (of_decide_eq_true (by kernel_rfl)) (fun wx hC hL => ?_) (fun v hv => ?_)
          · have j91 := hidIt (isIq_use (xs := l2) (hL.get 91 (by simp [more]) (by kernel_rfl) rfl rfl))
            have j94 := hidIt (isIq_use (xs := l2) (hL.get 94 (by simp [more]) (by kernel_rfl) rfl rfl))
            go_simp
            exact CK.out l2 _ wx a91 c91 a94 c94 IL2.out hC j91.out j94.out
          obtain ⟨_, _, rfl⟩ := hv
          simp only [Act.put, List.setIfInBounds_toArray, List.set_cons_zero, List.set_cons_succ]
          repeat (
            refine' walkR_plain (by kernel_rfl) rfl rfl (fun wx hC hL => ?_) ?_
            rotate_left
            · (have hls := Below.size hC
               have hllx := Nat.lt_of_lt_of_le lx hls
               simp only [X0 wx hC, X1 wx hC, hllx, go_sem]; first | done | (go_simp; exact ⟨rfl, rfl⟩))
            simp only [Act.put, List.setIfInBounds_toArray, List.set_cons_zero, List.set_cons_succ])
          refine walkR_rel (by kernel_rfl) rfl rfl (of_decide_eq_true (by kernel_rfl)) (fun wx hC hL => ?_) (fun v hv => ?_)
          · go_simp
            exact CR1.out wx hC
          obtain ⟨_, _, a101, c101, rfl, -⟩ := hv
          simp only [Act.put, List.setIfInBounds_toArray, List.set_cons_zero, List.set_cons_succ]
          repeat (
            refine' walkR_plain (by kernel_rfl) rfl rfl (fun wx hC hL => ?_) ?_
            rotate_left
            · (have hls := Below.size hC
               have hllx := Nat.lt_of_lt_of_le lx hls
               simp only [X0 wx hC, X1 wx hC, hllx, go_sem]; first | done | (go_simp; exact ⟨rfl, rfl⟩))
            simp only [Act.put, List.setIfInBounds_toArray, List.set_cons_zero, List.set_cons_succ])
          refine walkR_rel (by kernel_rfl) rfl rfl (of_decide_eq_true (by kernel_rfl)) (fun wx hC hL => ?_) (fun v hv => ?_)
          · go_simp
            exact CR2.out wx hC
          obtain ⟨_, _, a104, c104, rfl, -⟩ := hv
          simp only [Act.put, List.setIfInBounds_toArray, List.set_cons_zero, List.set_cons_succ]
          repeat (
            refine' walkR_plain (by kernel_rfl) rfl rfl (fun wx hC hL => ?_) ?_
            rotate_left
            · (have hls := Below.size hC
               have hllx := Nat.lt_of_lt_of_le lx hls
               simp only [X0 wx hC, X1 wx hC, hllx, go_sem]; first | done | (go_simp; exact ⟨rfl, rfl⟩))
            simp only [Act.put, List.setIfInBounds_toArray, List.set_cons_zero, List.set_cons_succ])
          refine walkR_rel (by kernel_rfl) rfl rfl (of_decide_eq_true (by kernel_rfl)) (fun wx hC hL => ?_) (fun v hv => ?_)
          · have j101 := hidIt (isIq_use (xs := l3) (hL.get 101 (by simp [more]) (by kernel_rfl) rfl rfl))
            have j104 := hidIt (isIq_use (xs := l3) (hL.get 104 (by simp [more]) (by kernel_rfl) rfl rfl))
            go_simp
            exact CK.out l3 _ wx a101 c101 a104 c104 IL3.out hC j101.out j104.out
          obtain ⟨_, _, rfl⟩ := hv
          simp only [Act.put, List.setIfInBounds_toArray, List.set_cons_zero, List.set_cons_succ]
          repeat (
            refine' walkR_plain (by kernel_rfl) rfl rfl (fun wx hC hL => ?_) ?_
            rotate_left
            · (have hls := Below.size hC
               have hllx := Nat.lt_of_lt_of_le lx hls
               simp only [X0 wx hC, X1 wx hC, hllx, go_sem]; first | done | (go_simp; exact ⟨rfl, rfl⟩))
            simp only [Act.put, List.setIfInBounds_toArray, List.set_cons_zero, List.set_cons_succ])
          refine walkR_rel (by kernel_rfl) rfl rfl (of_decide_eq_true (by kernel_rfl)) (fun wx hC hL => ?_) (fun v hv => ?_)
          · go_simp
            exact CH1.out wx hC
          obtain ⟨_, _, rfl⟩ := hv
          simp only [Act.put, List.setIfInBounds_toArray, List.set_cons_zero, List.set_cons_succ]
          repeat (
            refine' walkR_plain (by kernel_rfl) rfl rfl (fun wx hC hL => ?_) ?_
            rotate_left
            · (have hls := Below.size hC
               have hllx := Nat.lt_of_lt_of_le lx hls
               simp only [X0 wx hC, X1 wx hC, hllx, go_sem]; first | done | (go_simp; exact ⟨rfl, rfl⟩))
            simp only [Act.put, List.setIfInBounds_toArray, List.set_cons_zero, List.set_cons_succ])
          refine walkR_rel (by kernel_rfl) rfl rfl (of_decide_eq_true (by kernel_rfl)) (fun wx hC hL => ?_) (fun v hv => ?_)
          · go_simp
            exact CH2.out wx hC
          obtain ⟨_, _, rfl⟩ := hv
          simp only [Act.put, List.setIfInBounds_toArray, List.set_cons_zero, List.set_cons_succ]
          repeat (
            refine' walkR_plain (by kernel_rfl) rfl rfl (fun wx hC hL => ?_) ?_
            rotate_left
            · (have hls := Below.size hC
               have hllx := Nat.lt_of_lt_of_le lx hls
               simp only [X0 wx hC, X1 wx hC, hllx, go_sem]; first | done | (go_simp; exact ⟨rfl, rfl⟩))
            simp only [Act.put, List.setIfInBounds_toArray, List.set_cons_zero, List.set_cons_succ])
          refine fun w14 hC14 hK => ?_
          have hb14 : Below wr.heap.size wr w14 := hC14
          have HBN := hidIt (HB.out.trans (Below.mono hb14 HB.out.size))
          clear hK hC14 hb14 HB X0 X1 x0 x1 lx CA1 CA2 CD1 CD2 CR1 CR2 CH1 CH2 CK IL1 IL2 IL3 HX HQ HTz
          go_wp2_with fail
          go_roundw
          case rel => exact ⟨m + 1, by omega, by go_num, HBN.out⟩
          case measure => simp [intOf]; omega
        · obtain rfl : m = 8 := by omega
          have HXq := hidIt (blk_kept2 HX11.out HB.out)
          have HQq := hidIt (HQ11.out.below HB.out)
          have HGq := hidIt (HG11.out.go HB.out)
          have HBq := hidIt (HB11.out.trans (Below.mono HB.out HB11.out.size))
          clear HX11 HQ11 HG11 HB11 HT11 HE HB
          go_upto_region 18 with (fail)
          generalize wr = wq at *
          go_loopw [19, 120] (fun _ vm wr => ∃ m : Nat, m ≤ 5 ∧ vm = .int .i64 (m : Int) ∧ Hid (Below wq.heap.size wq wr)) (fun _ vm _ => 5 - (intOf vm).toNat)
          case atStart => exact ⟨0, Nat.zero_le _, (by first | rfl | trivial), Below.refl _ _⟩
          case round =>
            obtain ⟨m, hm, rfl, HB⟩ := hrel
            have hm0 : (0 : Int) ≤ (m : Int) := by omega
            by_cases hml : m < 5
            · have hmI : (m : Int) < 5 := by omega
              have hmg : m < gs.length := by have := HGL.out; omega
              have HGr := hidIt (HGq.out.go HB.out)
              obtain ⟨hul, ua, uc, g0, g1, hup⟩ := HGr.out.2 m hmg
              have lg := HGr.out.1
              generalize gs[m].2 = qu at *
              generalize gs[m].1 = nu at *
              have hgz := bgrow wr (.cells #[.int .i64 nu, .slice ua qu.length uc] 24)
              have HU := hidIt (hup.below hgz)
              have HUL := hidIt hul
              have HY := hidIt (heap_alloc_new wr (.cells #[.int .i64 nu, .slice ua qu.length uc] 24))
              have hbz := HB.out.trans (Below.mono hgz HB.out.size)
              have HX := hidIt (blk_kept2 HXq.out hbz)
              have HQ := hidIt (HQq.out.below hbz)
              have HBz := hidIt hbz
              clear hul hup hgz hbz HGr
              go_upto_region 20 with (fail)
              clear g0 g1 lg
              generalize (wr.alloc (.cells #[.int .i64 nu, .slice ua qu.length uc] 24)) = wz at *
              generalize wr.heap.size = Y at *
              obtain ⟨x0, x1⟩ := And.intro (cell_two0 HX.out) (cell_two1 HX.out)
              have lx := lt_of_block HX.out
              obtain ⟨y0, y1⟩ := And.intro (cell_two0 HY.out) (cell_two1 HY.out)
              have ly := lt_of_block HY.out
              have UL6 : qu.length ≤ 1000000 := by have := HUL.out; omega
              have CS1 : Hid (∀ wx, Ext wz wx → Calls Tryd.prog 25 #[.agg #[.int .i64 n, .slice ga q.length gc], .agg #[.int .i64 nu, .slice ua qu.length uc]] wx fun e w'' => ∃ u, e = .returned u ∧ Ext wz w'' ∧ Grows wx w'' ∧ isB (sameB n nu q qu) u w'') := fun wx hC => rel_call hC ((gSame_any n nu _ _ q qu wx (HQ.out.below hC) (HU.out.below hC) QL6 UL6).mono fun e w'' ⟨h1, h2⟩ => ⟨_, h1, rfl, h2⟩)
              have CS2 : Hid (∀ wx, Ext wz wx → Calls Tryd.prog 15 #[.agg #[.int .i64 n, .slice ga q.length gc], .agg #[.int .i64 nu, .slice ua qu.length uc]] wx fun e w'' => ∃ u, e = .returned u ∧ Ext wz w'' ∧ Grows wx w'' ∧ isB (sameB n nu q qu) u w'') := fun wx hC => rel_call hC ((rgSame_any n nu _ _ q qu wx (HQ.out.below hC) (HU.out.below hC) QL6 UL6).mono fun e w'' ⟨h1, h2⟩ => ⟨_, h1, rfl, h2⟩)
              generalize sameB n nu q qu = S at CS1 CS2
              have X0 : ∀ wx, Ext wz wx → wx.cell? ⟨X, 0, none⟩ = some (.int .i64 n) := fun wx hC => (Below.cell (p := ⟨X, 0, none⟩) hC lx).trans x0
              have X1 : ∀ wx, Ext wz wx → wx.cell? ⟨X, 1, none⟩ = some (.slice ga q.length gc) := fun wx hC => (Below.cell (p := ⟨X, 1, none⟩) hC lx).trans x1
              have Y0 : ∀ wx, Ext wz wx → wx.cell? ⟨Y, 0, none⟩ = some (.int .i64 nu) := fun wx hC => (Below.cell (p := ⟨Y, 0, none⟩) hC ly).trans y0
              have Y1 : ∀ wx, Ext wz wx → wx.cell? ⟨Y, 1, none⟩ = some (.slice ua qu.length uc) := fun wx hC => (Below.cell (p := ⟨Y, 1, none⟩) hC ly).trans y1
              haveI := Ext.nonempty wz
              refine wp_region_rel (Ext wz) Grows (relTab [(126, isB S), (129, isB S)]) (by kernel_rfl) (by kernel_rfl) (by kernel_rfl) (stable_cons (isB_up _) (stable_cons (isB_up _) (stable_nil _))) (Ext.start wz) ?_
              repeat (
                refine' walkR_plain (by kernel_rfl) rfl rfl (fun wx hC hL => ?_) ?_
                rotate_left
                · (have hls := Below.size hC
                   have hllx := Nat.lt_of_lt_of_le lx hls
                   have hlly := Nat.lt_of_lt_of_le ly hls
                   simp only [X0 wx hC, X1 wx hC, hllx, Y0 wx hC, Y1 wx hC, hlly, go_sem]; first | done | (go_simp; exact ⟨rfl, rfl⟩))
                simp only [Act.put, List.setIfInBounds_toArray, List.set_cons_zero, List.set_cons_succ])
              refine walkR_rel (by kernel_rfl) rfl rfl (of_decide_eq_true (by kernel_rfl)) (fun wx hC hL => ?_) (fun v hv => ?_)
              · go_simp
                exact CS1.out wx hC
              obtain ⟨_, _, rfl⟩ := hv
              simp only [Act.put, List.setIfInBounds_toArray, List.set_cons_zero, List.set_cons_succ]
              repeat (
                refine' walkR_plain (by kernel_rfl) rfl rfl (fun wx hC hL => ?_) ?_
                rotate_left
                · (have hls := Below.size hC
                   have hllx := Nat.lt_of_lt_of_le lx hls
                   have hlly := Nat.lt_of_lt_of_le ly hls
                   simp only [X0 wx hC, X1 wx hC, hllx, Y0 wx hC, Y1 wx hC, hlly, go_sem]; first | done | (go_simp; exact ⟨rfl, rfl⟩))
                simp only [Act.put, List.setIfInBounds_toArray, List.set_cons_zero, List.set_cons_succ])
              refine walkR_rel (by kernel_rfl) rfl rfl (of_decide_eq_true (by kernel_rfl)) (fun wx hC hL => ?_) (fun v hv => ?_)
              · go_simp
                exact CS2.out wx hC
              obtain ⟨_, _, rfl⟩ := hv
              simp only [Act.put, List.setIfInBounds_toArray, List.set_cons_zero, List.set_cons_succ]
              repeat (
                refine' walkR_plain (by kernel_rfl) rfl rfl (fun wx hC hL => ?_) ?_
                rotate_left
                · (have hls := Below.size hC
                   have hllx := Nat.lt_of_lt_of_le lx hls
                   have hlly := Nat.lt_of_lt_of_le ly hls
                   simp only [X0 wx hC, X1 wx hC, hllx, Y0 wx hC, Y1 wx hC, hlly, go_sem]; first | done | (go_simp; exact ⟨rfl, rfl⟩))
                simp only [Act.put, List.setIfInBounds_toArray, List.set_cons_zero, List.set_cons_succ])
              refine fun w20 hC20 hK => ?_
              have hb20 : Below wz.heap.size wz w20 := hC20
              have HBN := hidIt (HBz.out.trans (Below.mono hb20 HBz.out.size))
              clear hK hC20 hb20 HBz HB X0 X1 Y0 Y1 x0 x1 lx y0 y1 ly CS1 CS2 HX HY HQ HU
              go_wp2_with fail
              go_roundw
              case rel => exact ⟨m + 1, by omega, by go_num, HBN.out⟩
              case measure => simp [intOf]; omega
            · obtain rfl : m = 5 := by omega
              have HBF := hidIt (HBq.out.trans (Below.mono HB.out HBq.out.size))
              clear HBq HB HXq HQq HGq
              go_wp2_with fail
              go_roundw
              case rel => exact ⟨j + 1, by omega, by go_num, HBF.out⟩
              case measure => simp [intOf]; omega
    · obtain rfl : j = 5 := by omega
      have HBE := hidIt (HB5.out.trans (Below.mono HB.out HB5.out.size))
      have HTE := hidIt (HT5.out.go HB.out)
      go_wp2_with fail
      refine (awake10 _ HTE.out).mono ?_
      rintro e w8 ⟨rfl, hb⟩
      have HBF := hidIt (HBE.out.trans (Below.mono hb HBE.out.size))
      clear hb
      go_wp2_with fail
      go_ret
      exact ⟨rfl, HBF.out⟩
end Go.Proofs.YtjdnfphbddnhkaaDoor
