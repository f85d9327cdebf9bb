/- The law RulebaseFormats: the call answers true whatever came in. -/
import Derived.Test.YtiffcdhiejmbdaaGreatDoorZ1K7b
import Derived.Test.YtiffcdhiejmbdaaGreatDoorZ1U
import Derived.Test.YtiffcdhiejmbdaaGreatDoorZ1W
import Derived.Test.YtiffcdhiejmbdaaGreatDoorZ1S
import Derived.Test.YtiffcdhiejmbdaaGreatDoorZ1Small5

namespace Go.Proofs.YtiffcdhiejmbdaaGreatDoor
set_option linter.unusedVariables false
set_option linter.unusedSimpArgs false
open Go Go.RowKit

theorem r5same_dec (b c : Bs) (v u : Value) (w : World) (hv : BaseAt w v b) (hu : BaseAt w u c) :
    Calls Tryz.prog 29 #[v, u] w fun e w' => e = .returned (.bool (decide (b = c))) ∧ Below w.heap.size w w' :=
  (r5same_any b c v u w hv hu).mono fun e w' ⟨⟨r, he, hr⟩, hb⟩ => ⟨by
    rw [he]
    congr 2
    by_cases h : b = c
    · rw [decide_eq_true h, hr.2 h]
    · rw [decide_eq_false h]
      cases r
      · rfl
      · exact absurd (hr.1 rfl) h, hb⟩

set_option maxRecDepth 100000 in
set_option maxHeartbeats 8000000 in
theorem rfmt_walk (v : Value) (bs : Bs) (u : Value) (cs : Bs) (lv : Value) (zs : List Int) (w : World) (hv : BaseAt w v bs) (hok : BsOk bs) (hu : BaseAt w u cs) (hoc : BsOk cs) (hz : IntsAt w w.heap.size lv zs) (hE : EnvOk w) :
    Calls Tryz.prog 4 #[v, u, lv] w fun e w' => e = .returned (.bool true) ∧ Below w.heap.size w w' := by
  have HE := hidIt hE
  have HZ := hidIt hz
  have HOK := hidIt hok
  have HOC := hidIt hoc
  obtain ⟨a1, a2, a3, c1, c2, c3, rfl, -⟩ := hv.form
  obtain ⟨a1', a2', a3', c1', c2', c3', rfl, -⟩ := hu.form
  have HV := hidIt hv
  have HU := hidIt hu
  clear hz hE hok hv hu hoc
  have HB0 := hidIt (bgrow2 w (.cells #[.slice a1 bs.prems.length c1, .slice a2 bs.rules.length c2, .slice a3 bs.proms.length c3] 26) (.cells #[.slice a1' cs.prems.length c1', .slice a2' cs.rules.length c2', .slice a3' cs.proms.length c3'] 26))
  have hz1 := size_alloc w (.cells #[.slice a1 bs.prems.length c1, .slice a2 bs.rules.length c2, .slice a3 bs.proms.length c3] 26)
  have HR0 := hidIt (blk_kept2 (heap_alloc_new w (.cells #[.slice a1 bs.prems.length c1, .slice a2 bs.rules.length c2, .slice a3 bs.proms.length c3] 26)) (bgrow _ (.cells #[.slice a1' cs.prems.length c1', .slice a2' cs.rules.length c2', .slice a3' cs.proms.length c3'] 26)))
  have HX0 := hidIt (heap_alloc_new (w.alloc (.cells #[.slice a1 bs.prems.length c1, .slice a2 bs.rules.length c2, .slice a3 bs.proms.length c3] 26)) (.cells #[.slice a1' cs.prems.length c1', .slice a2' cs.rules.length c2', .slice a3' cs.proms.length c3'] 26))
  rw [hz1] at HX0
  clear hz1
  go_enter Tryz.func4, Tryz.ntmps4
  obtain ⟨r0, r1, r2⟩ := bcell3 HR0.out
  have lr0 := lt_of_block HR0.out
  go_wp2_with fail
  refine (ksmall5_any bs _ _ (HV.out.below HB0.out)).mono ?_
  rintro e w1 ⟨⟨sb, rfl, hsb⟩, hb1⟩
  have HB1 := hidIt (HB0.out.trans (Below.mono hb1 HB0.out.size))
  have HR1 := hidIt (blk_kept2 HR0.out hb1)
  have HX1 := hidIt (blk_kept2 HX0.out hb1)
  clear hb1 r0 r1 r2 lr0 HR0 HX0 HB0 hsb
  obtain ⟨x0, x1, x2⟩ := bcell3 HX1.out
  have lx0 := lt_of_block HX1.out
  cases sb
  · go_wp2_with fail
    go_ret
    exact ⟨rfl, HB1.out⟩
  go_wp2_with fail
  refine (ksmall5_any cs _ _ (HU.out.below HB1.out)).mono ?_
  rintro e w1' ⟨⟨sb', rfl, hsb'⟩, hb1'⟩
  have HB1' := hidIt (HB1.out.trans (Below.mono hb1' HB1.out.size))
  have HR1' := hidIt (blk_kept2 HR1.out hb1')
  have HX1' := hidIt (blk_kept2 HX1.out hb1')
  have lx1 := lt_of_block HX1'.out
  clear hb1' x0 x1 x2 lx0 HR1 HX1 HB1 hsb'
  cases sb'
  · go_wp2_with fail
    go_ret
    exact ⟨rfl, HB1'.out⟩
  go_wp2_with fail
  have hbw : w.heap.size + 2 ≤ w1'.heap.size := by omega
  refine (new_any lv zs w.heap.size w1' (HZ.out.kept (only_of_below HB1'.out none) (fun g e => by cases e)) HB1'.out.size).mono ?_
  rintro e w2 ⟨zs1, rfl, hs2, o1, hw2⟩
  have hgr2 : Below w1'.heap.size w1' w2 := by rw [hw2]; exact bgrow w1' o1
  have HB2 := hidIt (HB1'.out.trans (Below.mono hgr2 HB1'.out.size))
  have HR2 := hidIt (blk_kept2 HR1'.out hgr2)
  have HX2 := hidIt (blk_kept2 HX1'.out hgr2)
  have HS2 := hidIt hs2
  clear hs2 hw2 hgr2 HR1' HX1' HB1' lx1 HZ
  obtain ⟨b, hb⟩ : ∃ b, b = w1'.heap.size := ⟨_, rfl⟩
  rw [← hb] at hbw HS2 ⊢
  clear hb
  go_wp2_with fail
  refine (base_any 4 6 8 (by omega) (by omega) (by omega) (by omega) (by omega) w.heap.size b zs1 0 w2 HS2.out).mono ?_
  rintro e w3 ⟨vb, gs, q3, rfl, hbo, hgen, hs3, hg3⟩
  have HB3 : Hid (Below w.heap.size w w3) := below_app5 HB2.out hg3 (fun g e => by injection e with e; omega) HB2.out.size
  have HR3 := hidIt ((hg3.block w.heap.size (lt_of_block HR2.out) (fun e => by injection e with e; omega)).trans HR2.out)
  have HX3 := hidIt ((hg3.block (w.heap.size + 1) (lt_of_block HX2.out) (fun e => by injection e with e; omega)).trans HX2.out)
  have HFIT := hidIt (baseE_fit (hgen.valid (by omega) (by omega) (by omega)))
  have hnp := hgen.np
  have hnr := hgen.nr
  have hnq := hgen.nq
  have hb2 : b < w2.heap.size := HS2.out.lt
  clear hgen
  obtain ⟨d1, d2, d3, e1, e2, e3, rfl, -⟩ := hbo.at_.form
  have hgr4 := bgrow w3 (.cells #[.slice d1 gs.prems.length e1, .slice d2 gs.rules.length e2, .slice d3 gs.proms.length e3] 26)
  have HB4 := hidIt (HB3.out.trans (Below.mono hgr4 HB3.out.size))
  have HR4 := hidIt (blk_kept2 HR3.out hgr4)
  have HX4 := hidIt (blk_kept2 HX3.out hgr4)
  have HS4 := hidIt (hs3.grow (only_of_below hgr4 none))
  have HO4 := hidIt (hbo.grown (only_of_below hgr4 none) (fun g e => by cases e))
  have HG4 := hidIt (heap_alloc_new w3 (.cells #[.slice d1 gs.prems.length e1, .slice d2 gs.rules.length e2, .slice d3 gs.proms.length e3] 26))
  have hsz4 : w2.heap.size ≤ w3.heap.size := hg3.size
  clear hbo hs3 hg3 hgr4 HB2 HB3 HR2 HR3 HX2 HX3 HS2
  go_wp2_with fail
  generalize (w3.alloc (.cells #[.slice d1 gs.prems.length e1, .slice d2 gs.rules.length e2, .slice d3 gs.proms.length e3] 26)) = w4 at *
  obtain ⟨p4, hp4⟩ : ∃ p, p = w3.heap.size := ⟨_, rfl⟩
  rw [← hp4] at HG4 hsz4 ⊢
  clear hp4
  obtain ⟨r0, r1, r2⟩ := bcell3 HR4.out
  obtain ⟨g0, g1, g2⟩ := bcell3 HG4.out
  obtain ⟨x0, x1, x2⟩ := bcell3 HX4.out
  have lr := lt_of_block HR4.out
  have lg := lt_of_block HG4.out
  have lx := lt_of_block HX4.out
  have hne1 : w.heap.size ≠ b := by omega
  have hne2 : p4 ≠ b := by omega
  have hne3 : w.heap.size + 1 ≠ b := by omega
  have hb4 : b < w4.heap.size := by omega
  have R0 : ∀ wx, Own.CB w4 w.heap.size b zs1 wx → wx.cell? ⟨w.heap.size, 0, none⟩ = some (.slice a1 bs.prems.length c1) := fun wx hC => hC.cell r0 hne1
  have R1 : ∀ wx, Own.CB w4 w.heap.size b zs1 wx → wx.cell? ⟨w.heap.size, 1, none⟩ = some (.slice a2 bs.rules.length c2) := fun wx hC => hC.cell r1 hne1
  have R2 : ∀ wx, Own.CB w4 w.heap.size b zs1 wx → wx.cell? ⟨w.heap.size, 2, none⟩ = some (.slice a3 bs.proms.length c3) := fun wx hC => hC.cell r2 hne1
  have X0 : ∀ wx, Own.CB w4 w.heap.size b zs1 wx → wx.cell? ⟨w.heap.size + 1, 0, none⟩ = some (.slice a1' cs.prems.length c1') := fun wx hC => hC.cell x0 hne3
  have X1 : ∀ wx, Own.CB w4 w.heap.size b zs1 wx → wx.cell? ⟨w.heap.size + 1, 1, none⟩ = some (.slice a2' cs.rules.length c2') := fun wx hC => hC.cell x1 hne3
  have X2 : ∀ wx, Own.CB w4 w.heap.size b zs1 wx → wx.cell? ⟨w.heap.size + 1, 2, none⟩ = some (.slice a3' cs.proms.length c3') := fun wx hC => hC.cell x2 hne3
  have G0 : ∀ wx, Own.CB w4 w.heap.size b zs1 wx → wx.cell? ⟨p4, 0, none⟩ = some (.slice d1 gs.prems.length e1) := fun wx hC => hC.cell g0 hne2
  have G1 : ∀ wx, Own.CB w4 w.heap.size b zs1 wx → wx.cell? ⟨p4, 1, none⟩ = some (.slice d2 gs.rules.length e2) := fun wx hC => hC.cell g1 hne2
  have G2 : ∀ wx, Own.CB w4 w.heap.size b zs1 wx → wx.cell? ⟨p4, 2, none⟩ = some (.slice d3 gs.proms.length e3) := fun wx hC => hC.cell g2 hne2
  have HSP : Hid (∀ wx, Own.CB w4 w.heap.size b zs1 wx → Calls Tryz.prog 16 #[.pointer (some ⟨b, 0, none⟩), .agg #[.slice d1 gs.prems.length e1, .slice d2 gs.rules.length e2, .slice d3 gs.proms.length e3]] wx fun e w'' => ∃ u, e = .returned u ∧ Own.CB w4 w.heap.size b zs1 w'' ∧ Own.GB b wx w'' ∧ Own.relR (Own.rA (Own.isSpB w4.heap.size b 9 7)) wx u w'') := fun wx hC =>
    Own.callSp 8 6 hC (HO4.out.grown hC.1 (fun g e => by injection e with e; omega)) HFIT.out.ok (by omega) (by omega) (by omega) (by omega) (by omega) (by omega) (fun r hr => by have := (HFIT.out.2.1 r hr).2.2.2.2; omega) hb4
  clear r0 r1 r2 g0 g1 g2 x0 x1 x2
  haveI : Nonempty (In (Own.CB w4 w.heap.size b zs1)) := ⟨⟨w4, Own.CB.one _ _ _ _ _ HS4.out⟩⟩
  refine Own.wp_region_rel (Own.CB w4 w.heap.size b zs1) (Own.GB b) (Own.relTab [(35, Own.rA (Own.isSpB w4.heap.size b 9 7)), (37, Own.rA (Own.isOwnB w4.heap.size b)), (38, Own.rA (Own.isFiveB w4.heap.size b (.slice a1 bs.prems.length c1) (.slice a2 bs.rules.length c2) (.slice a3 bs.proms.length c3) (.slice a1' cs.prems.length c1') (.slice a2' cs.rules.length c2') (.slice a3' cs.proms.length c3') (.slice d1 gs.prems.length e1) (.slice d2 gs.rules.length e2) (.slice d3 gs.proms.length e3)))]) (by kernel_rfl) (by kernel_rfl) (by kernel_rfl) (Own.stableB_cons (Own.isSpB_up _ _ _ _) (Own.stableB_cons (Own.isOwnB_up _ _) (Own.stableB_cons (Own.isFiveB_up _ _ _ _ _ _ _ _ _ _ _) (Own.stableB_nil _ _)))) (Own.CB.start HS4.out) ?_
  repeat (
    refine' Own.walkR_plain (by kernel_rfl) rfl rfl (fun wx hC hL => ?_) ?_
    rotate_left
    · (have hlw := hC.1.size
       have hlw1 := Nat.lt_of_lt_of_le lr hlw
       have hlw2 := Nat.lt_of_lt_of_le lg hlw
       have hlw3 := Nat.lt_of_lt_of_le lx hlw
       simp only [R0 wx hC, R1 wx hC, R2 wx hC, G0 wx hC, G1 wx hC, G2 wx hC, X0 wx hC, X1 wx hC, X2 wx hC, hlw1, hlw2, hlw3, go_sem]; first | done | (go_simp; exact ⟨rfl, rfl⟩))
    simp only [Act.put, List.setIfInBounds_toArray, List.set_cons_zero, List.set_cons_succ])
  refine Own.walkR_rel (by kernel_rfl) rfl rfl (of_decide_eq_true (by kernel_rfl)) (fun wx hC hL => ?_) (fun v35 hv35 => ?_)
  · go_simp
    exact HSP.out wx hC
  obtain ⟨_, _, y, hy, -⟩ := hv35
  obtain ⟨f1, f2, f3, k1, k2, k3, rfl, -⟩ := hy.at_.form
  clear hy
  generalize y.prems.length = n1
  generalize y.rules.length = n2
  generalize y.proms.length = n3
  simp only [Act.put, List.setIfInBounds_toArray, List.set_cons_zero, List.set_cons_succ]
  repeat (
    refine' Own.walkR_plain (by kernel_rfl) rfl rfl (fun wx hC hL => ?_) ?_
    rotate_left
    · (have hlw := hC.1.size
       have hlw1 := Nat.lt_of_lt_of_le lr hlw
       have hlw2 := Nat.lt_of_lt_of_le lg hlw
       have hlw3 := Nat.lt_of_lt_of_le lx hlw
       simp only [R0 wx hC, R1 wx hC, R2 wx hC, G0 wx hC, G1 wx hC, G2 wx hC, X0 wx hC, X1 wx hC, X2 wx hC, hlw1, hlw2, hlw3, go_sem]; first | done | (go_simp; exact ⟨rfl, rfl⟩))
    simp only [Act.put, List.setIfInBounds_toArray, List.set_cons_zero, List.set_cons_succ])
  refine Own.walkR_rel (by kernel_rfl) rfl rfl (of_decide_eq_true (by kernel_rfl)) (fun wx hC hL => ?_) (fun v37 hv37 => ?_)
  · go_simp
    exact Own.callBase 2 2 2 (by omega) (by omega) (by omega) (by omega) (by omega) hC hb4
  obtain ⟨_, _, y', hy', -⟩ := hv37
  obtain ⟨h1, h2, h3, l1, l2, l3, rfl, -⟩ := hy'.at_.form
  clear hy'
  generalize y'.prems.length = m1
  generalize y'.rules.length = m2
  generalize y'.proms.length = m3
  simp only [Act.put, List.setIfInBounds_toArray, List.set_cons_zero, List.set_cons_succ]
  refine Own.walkR_rel (by kernel_rfl) rfl rfl (of_decide_eq_true (by kernel_rfl)) (fun wx hC hL => ?_) (fun v38 hv38 => ?_)
  · have h35 : Own.isSpB w4.heap.size b 9 7 (.agg #[.slice f1 n1 k1, .slice f2 n2 k2, .slice f3 n3 k3]) wx := hL.get 35 (by simp [Own.more]) (by kernel_rfl) rfl rfl
    have h37 : Own.isOwnB w4.heap.size b (.agg #[.slice h1 m1 l1, .slice h2 m2 l2, .slice h3 m3 l3]) wx := hL.get 37 (by simp [Own.more]) (by kernel_rfl) rfl rfl
    go_simp
    exact Own.fiveB hC h35.own h37
  obtain ⟨_, _, nb, _, _, _, _, _, _, rfl, -⟩ := hv38
  simp only [Act.put, List.setIfInBounds_toArray, List.set_cons_zero, List.set_cons_succ]
  repeat (
    refine' Own.walkR_plain (by kernel_rfl) rfl rfl (fun wx hC hL => ?_) ?_
    rotate_left
    · (go_simp; exact ⟨rfl, rfl⟩)
    simp only [Act.put, List.setIfInBounds_toArray, List.set_cons_zero, List.set_cons_succ])
  refine fun w10 hC10 hK => ?_
  obtain ⟨nb', p3, r3, q3', p4', r4, q4, enb, hnb, hrow, ⟨y35, ho35, hk35, -⟩, ⟨y37, ho37, hk37, -⟩⟩ : Own.isFiveB w4.heap.size b (.slice a1 bs.prems.length c1) (.slice a2 bs.rules.length c2) (.slice a3 bs.proms.length c3) (.slice a1' cs.prems.length c1') (.slice a2' cs.rules.length c2') (.slice a3' cs.proms.length c3') (.slice d1 gs.prems.length e1) (.slice d2 gs.rules.length e2) (.slice d3 gs.proms.length e3) (.slice (some ⟨nb, 0, none⟩) 5 5) w10 := hK.get 38 (by simp [Own.more]) rfl rfl
  injection enb with enb
  injection enb with enb
  injection enb with enb
  subst enb
  obtain ⟨hg10, q9, hs10⟩ := hC10
  have HB10 : Hid (Below w.heap.size w w10) := below_app5 HB4.out hg10 (fun g e => by injection e with e; omega) HB4.out.size
  have hnbl := lt_of_block hrow
  have HFIVE : Hid (∀ k, k < 5 → BaseNo w10 b nb k) := by
    intro k hk
    have hk4 : k = 0 ∨ k = 1 ∨ k = 2 ∨ k = 3 ∨ k = 4 := by omega
    rcases hk4 with rfl | rfl | rfl | rfl | rfl
    · exact baseNo_old hrow rfl rfl rfl HV.out HB10.out (by omega) HOK.out
    · exact baseNo_old hrow rfl rfl rfl HU.out HB10.out (by omega) HOC.out
    · exact baseNo_own hrow rfl rfl rfl (HO4.out.grown hg10 (fun g e => by injection e with e; omega)) hb2 HFIT.out.ok
    · exact baseNo_own hrow rfl rfl rfl ho35 hb4 hk35
    · exact baseNo_own hrow rfl rfl rfl ho37 hb4 hk37
  clear hK ho35 ho37 hk35 hk37 hg10 hs10 hrow R0 R1 R2 G0 G1 G2 X0 X1 X2 HSP HR4 HG4 HS4 HO4 HX4 HB4 HFIT HV HOK HU HOC hnp hnr hnq lr lg lx hne1 hne2 hne3
  have hbw' : w.heap.size ≤ b := by omega
  clear hbw hb2 hb4 hsz4
  go_wp2_with fail
  go_loopw [41] (fun i wr => ∃ (k : Nat), k ≤ 5 ∧ i = .int .i64 k ∧ Hid (w10.grownBy wr (some b))) (fun i _ => 5 - (intOf i).toNat)
  case atStart => exact ⟨0, Nat.zero_le _, rfl, only_refl _ _⟩
  case round =>
    obtain ⟨k, hk, rfl, HGr⟩ := hrel
    have hnbr := Nat.lt_of_lt_of_le hnbl HGr.out.size
    by_cases hlt : k < 5
    · obtain ⟨p1, p2, p3, j1, j2, j3, x, c0', c1', c2', hxok, hat⟩ := HFIVE.out k hlt
      have c0 := HGr.out.cell c0' (fun e => hnb (by injection e))
      have c1x := HGr.out.cell c1' (fun e => hnb (by injection e))
      have c2x := HGr.out.cell c2' (fun e => hnb (by injection e))
      have hltI : (k : Int) < 5 := by omega
      have hk0 : (0 : Int) ≤ (k : Int) := by omega
      have hgr := bgrow wr (.cells #[.slice p1 x.prems.length j1, .slice p2 x.rules.length j2, .slice p3 x.proms.length j3] 26)
      have HG11 := hidIt (only_trans HGr.out (only_of_below hgr (some b)))
      have HB11 : Hid (Below w.heap.size w (wr.alloc (.cells #[.slice p1 x.prems.length j1, .slice p2 x.rules.length j2, .slice p3 x.proms.length j3] 26))) := below_app5 HB10.out HG11.out (fun g e => by injection e with e; omega) HB10.out.size
      have HK11 := hidIt (heap_alloc_new wr (.cells #[.slice p1 x.prems.length j1, .slice p2 x.rules.length j2, .slice p3 x.proms.length j3] 26))
      have HAT := hidIt hat
      have HXOK := hidIt hxok
      clear c0' c1' c2' hxok hat hgr HGr
      go_wp2_with fail
      generalize (wr.alloc (.cells #[.slice p1 x.prems.length j1, .slice p2 x.rules.length j2, .slice p3 x.proms.length j3] 26)) = w11 at *
      obtain ⟨p11, hp11⟩ : ∃ p, p = wr.heap.size := ⟨_, rfl⟩
      rw [← hp11] at HK11 ⊢
      clear hp11 c0 c1x c2x hnbr
      refine (bformat_any x HXOK.out _ _ (HAT.out _ HG11.out) (HE.out.go HB11.out).words).mono ?_
      rintro e w12 ⟨rfl, hb12⟩
      have HG12 := hidIt (only_trans HG11.out (only_of_below hb12 (some b)))
      have hK12 := blk_kept2 HK11.out hb12
      have HK12 := hidIt hK12
      obtain ⟨b0, b1, b2⟩ := bcell3 hK12
      have lb := lt_of_block hK12
      clear hb12 HG11 HB11 HK11 hK12
      go_wp2_with fail
      refine (r5format_any x HXOK.out _ _ (HAT.out _ HG12.out)).mono ?_
      rintro e w13 ⟨rfl, hb13⟩
      have HG13 := hidIt (only_trans HG12.out (only_of_below hb13 (some b)))
      have HK13 := hidIt (blk_kept2 HK12.out hb13)
      clear hb13 HG12 HK12 b0 b1 b2 lb
      generalize fmtT5 x = FT at *
      generalize fmtE5 x = FE at *
      go_wp2_with fail
      go_loopw [65] (fun i wy => ∃ (j : Nat), j ≤ 5 ∧ i = .int .i64 j ∧ Hid (w10.grownBy wy (some b)) ∧ Hid (wy.heap[p11]? = some (.cells #[.slice p1 x.prems.length j1, .slice p2 x.rules.length j2, .slice p3 x.proms.length j3] 26 (0, 0)))) (fun i _ => 5 - (intOf i).toNat)
      case atStart => exact ⟨0, Nat.zero_le _, rfl, HG13.out, HK13.out⟩
      case round =>
        clear HG13 HK13
        obtain ⟨j, hj, rfl, HGj, HKj⟩ := hrel
        have hnbj := Nat.lt_of_lt_of_le hnbl HGj.out.size
        by_cases hjl : j < 5
        · obtain ⟨p1', p2', p3', j1', j2', j3', y, c0', c1', c2', hyok, hay⟩ := HFIVE.out j hjl
          have c0 := HGj.out.cell c0' (fun e => hnb (by injection e))
          have c1x := HGj.out.cell c1' (fun e => hnb (by injection e))
          have c2x := HGj.out.cell c2' (fun e => hnb (by injection e))
          have hjI : (j : Int) < 5 := by omega
          have hj0 : (0 : Int) ≤ (j : Int) := by omega
          have hgr := bgrow wr (.cells #[.slice p1' y.prems.length j1', .slice p2' y.rules.length j2', .slice p3' y.proms.length j3'] 26)
          have HG14 := hidIt (only_trans HGj.out (only_of_below hgr (some b)))
          have HK14 := hidIt (blk_kept2 HKj.out hgr)
          have hY14 := heap_alloc_new wr (.cells #[.slice p1' y.prems.length j1', .slice p2' y.rules.length j2', .slice p3' y.proms.length j3'] 26)
          clear c0' c1' c2' hyok hgr HGj HKj
          go_wp2_with fail
          generalize (wr.alloc (.cells #[.slice p1' y.prems.length j1', .slice p2' y.rules.length j2', .slice p3' y.proms.length j3'] 26)) = w14 at *
          clear c0 c1x c2x hnbj
          have HA14 := hidIt (HAT.out _ HG14.out)
          have HY14 := hidIt (hay _ HG14.out)
          obtain ⟨b0, b1, b2⟩ := bcell3 HK14.out
          obtain ⟨y0, y1, y2⟩ := bcell3 hY14
          have lb := lt_of_block HK14.out
          have ly := lt_of_block hY14
          clear hY14
          have K0 := fun y => Ext.cell b0 y
          have K1 := fun y => Ext.cell b1 y
          have K2 := fun y => Ext.cell b2 y
          have Y0 := fun y => Ext.cell y0 y
          have Y1 := fun y => Ext.cell y1 y
          have Y2 := fun y => Ext.cell y2 y
          have LK := fun y : In (Ext w14) => Nat.lt_of_lt_of_le lb (Below.size y.h)
          have LY := fun y : In (Ext w14) => Nat.lt_of_lt_of_le ly (Below.size y.h)
          haveI := Ext.nonempty w14
          refine wp_region_in (Ext w14) (by kernel_rfl) (by kernel_rfl) (Ext.start w14) ?_
          repeat (go_big_quiet_step (first
            | (go_at_call 28; refine Ext.call (bsame_any x y _ _ _ (HA14.out.below (In.h _)) (HY14.out.below (In.h _))))
            | (go_at_call 29; refine Ext.call (r5same_dec x y _ _ _ (HA14.out.below (In.h _)) (HY14.out.below (In.h _))))))
          refine wpQuiet_nil ?_
          rintro w15 ⟨⟨_, h15⟩, rfl⟩
          have HG15 := hidIt (only_trans HG14.out (only_of_below h15 (some b)))
          have HK15 := hidIt (blk_kept2 HK14.out h15)
          clear h15 K0 K1 K2 Y0 Y1 Y2 LK LY b0 b1 b2 y0 y1 y2 lb ly HG14 HK14 HA14 HY14
          generalize decide (x = y) = D at *
          go_wp2_with fail
          go_roundw
          case rel => exact ⟨j + 1, by omega, by go_num, HG15.out, HK15.out⟩
          case measure => simp [intOf]; omega
        · have hjI : ¬ (j : Int) < 5 := by omega
          obtain rfl : j = 5 := by omega
          go_wp2_with fail
          go_roundw
          case rel => exact ⟨k + 1, by omega, by go_num, HGj.out⟩
          case measure => simp [intOf]; omega
    · have hltI : ¬ (k : Int) < 5 := by omega
      have HBr : Hid (Below w.heap.size w wr) := below_app5 HB10.out HGr.out (fun g e => by injection e with e; omega) HB10.out.size
      obtain rfl : k = 5 := by omega
      go_wp2_with fail
      refine (awake5_any _ (HE.out.go HBr.out)).mono ?_
      rintro e w16 ⟨rfl, hb16⟩
      have HB16 := hidIt (HBr.out.trans (Below.mono hb16 HBr.out.size))
      clear hb16
      go_wp2_with fail
      go_ret
      exact ⟨rfl, HB16.out⟩
end Go.Proofs.YtiffcdhiejmbdaaGreatDoor
