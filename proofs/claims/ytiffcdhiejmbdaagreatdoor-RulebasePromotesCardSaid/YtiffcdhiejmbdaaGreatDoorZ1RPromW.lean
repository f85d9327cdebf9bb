/- The law RulebasePromotes: the call answers true whatever came in. -/
import Derived.Test.YtiffcdhiejmbdaaGreatDoorZ1RPromH

namespace Go.Proofs.YtiffcdhiejmbdaaGreatDoor
set_option linter.unusedVariables false
set_option linter.unusedSimpArgs false
open Go Go.RowKit

set_option maxRecDepth 100000 in
set_option maxHeartbeats 8000000 in
theorem rprom_walk (v : Value) (bs : Bs) (u : Value) (ss : List Lt) (lv : Value) (zs : List Int) (w : World) (hv : BaseAt w v bs) (hok : BsOk bs) (hu : BodyAt w u ss) (hss : Short ss) (hz : IntsAt w w.heap.size lv zs) (hE : EnvOk w) :
    Calls Tryz.prog 6 #[v, u, lv] w fun e w' => e = .returned (.bool true) ∧ Below w.heap.size w w' := by
  have HE := hidIt hE
  have HZ := hidIt hz
  have HOK := hidIt hok
  have HSS := hidIt hss
  obtain ⟨a1, a2, a3, c1, c2, c3, rfl, -⟩ := hv.form
  obtain ⟨au, cu, rfl, -, -, -⟩ := hu.form
  have HV := hidIt hv
  have HU := hidIt hu
  clear hz hE hok hv hu hss
  have HB0 := hidIt (bgrow w (.cells #[.slice a1 bs.prems.length c1, .slice a2 bs.rules.length c2, .slice a3 bs.proms.length c3] 26))
  have HR0 := hidIt (heap_alloc_new w (.cells #[.slice a1 bs.prems.length c1, .slice a2 bs.rules.length c2, .slice a3 bs.proms.length c3] 26))
  go_enter Tryz.func6, Tryz.ntmps6
  obtain ⟨r0, r1, r2⟩ := bcell3 HR0.out
  have lr0 := lt_of_block HR0.out
  go_wp2_with fail
  refine (ksmall5_any bs _ _ (HV.out.below HB0.out)).mono ?_
  rintro e w1 ⟨⟨sb, rfl, hsb⟩, hb1⟩
  have HB1 := hidIt (HB0.out.trans (Below.mono hb1 HB0.out.size))
  have HR1 := hidIt (blk_kept2 HR0.out hb1)
  have hlt1 := lt_of_block HR1.out
  clear hb1 r0 r1 r2 lr0 HR0 HB0
  cases sb
  · go_wp2_with fail
    go_ret
    exact ⟨rfl, HB1.out⟩
  by_cases hs20 : 20 < ss.length
  · have hs20I : (20 : Int) < (ss.length : Int) := by omega
    go_wp2_with fail
    go_ret
    exact ⟨rfl, HB1.out⟩
  have hs20I : ¬ (20 : Int) < (ss.length : Int) := by omega
  have HSR : Hid (Sm5 bs) := by
    obtain ⟨k1, k2, k3, k4⟩ := hsb rfl
    refine ⟨by omega, by omega, by omega, fun r hr => ?_⟩
    obtain ⟨i, hi, rfl⟩ := List.getElem_of_mem hr
    have := k4 i hi
    omega
  clear hsb
  go_wp2_with fail
  refine (new_any lv zs w.heap.size w1 (HZ.out.kept (only_of_below HB1.out none) (fun g e => by cases e)) HB1.out.size).mono ?_
  rintro e w2 ⟨zs1, rfl, hs2, o1, hw2⟩
  have hgr2 : Below w1.heap.size w1 w2 := by rw [hw2]; exact bgrow w1 o1
  have HB2 := hidIt (HB1.out.trans (Below.mono hgr2 HB1.out.size))
  have HR2 := hidIt (blk_kept2 HR1.out hgr2)
  have HS2 := hidIt hs2
  have hbw := hlt1
  clear hs2 hw2 hgr2 HR1 HB1 hs20I HZ hlt1
  obtain ⟨b, hb⟩ : ∃ b, b = w1.heap.size := ⟨_, rfl⟩
  rw [← hb] at hbw HS2 ⊢
  clear hb
  go_wp2_with fail
  refine (base_any 3 4 6 (by omega) (by omega) (by omega) (by omega) (by omega) w.heap.size b zs1 0 w2 HS2.out).mono ?_
  rintro e w3 ⟨vb, gs, q3, rfl, hbo, hgen, hs3, hg3⟩
  have HB3 : Hid (Below w.heap.size w w3) := below_app5 HB2.out hg3 (fun g e => by injection e with e; omega) HB2.out.size
  have HR3 := hidIt ((hg3.block w.heap.size (lt_of_block HR2.out) (fun e => by injection e with e; omega)).trans HR2.out)
  have HFIT := hidIt (baseE_fit (hgen.valid (by omega) (by omega) (by omega)))
  have hnp := hgen.np
  have hnr := hgen.nr
  have hnq := hgen.nq
  have hb2 : b < w2.heap.size := HS2.out.lt
  clear hgen
  have HSG : Hid (Sm5 gs) := ⟨by omega, by omega, by omega, fun r hr => by have := (HFIT.out.2.1 r hr).2.2.2.2; omega⟩
  obtain ⟨d1, d2, d3, e1, e2, e3, rfl, -⟩ := hbo.at_.form
  have hgr4 := bgrow w3 (.cells #[.slice d1 gs.prems.length e1, .slice d2 gs.rules.length e2, .slice d3 gs.proms.length e3] 26)
  have HB4 := hidIt (HB3.out.trans (Below.mono hgr4 HB3.out.size))
  have HR4 := hidIt (blk_kept2 HR3.out hgr4)
  have HS4 := hidIt (hs3.grow (only_of_below hgr4 none))
  have HO4 := hidIt (hbo.grown (only_of_below hgr4 none) (fun g e => by cases e))
  have HG4 := hidIt (heap_alloc_new w3 (.cells #[.slice d1 gs.prems.length e1, .slice d2 gs.rules.length e2, .slice d3 gs.proms.length e3] 26))
  have hsz4 : w2.heap.size ≤ w3.heap.size := hg3.size
  clear hbo hs3 hg3 hgr4 HB2 HB3 HR2 HR3 HS2
  go_wp2_with fail
  generalize (w3.alloc (.cells #[.slice d1 gs.prems.length e1, .slice d2 gs.rules.length e2, .slice d3 gs.proms.length e3] 26)) = w4 at *
  obtain ⟨p4, hp4⟩ : ∃ p, p = w3.heap.size := ⟨_, rfl⟩
  rw [← hp4] at HG4 hsz4 ⊢
  clear hp4
  obtain ⟨r0, r1, r2⟩ := bcell3 HR4.out
  obtain ⟨g0, g1, g2⟩ := bcell3 HG4.out
  have lr := lt_of_block HR4.out
  have lg := lt_of_block HG4.out
  have hne1 : w.heap.size ≠ b := by omega
  have hne2 : p4 ≠ b := by omega
  have hb4 : b < w4.heap.size := by omega
  have R0 : ∀ wx, Own.CB w4 w.heap.size b zs1 wx → wx.cell? ⟨w.heap.size, 0, none⟩ = some (.slice a1 bs.prems.length c1) := fun wx hC => hC.cell r0 hne1
  have R1 : ∀ wx, Own.CB w4 w.heap.size b zs1 wx → wx.cell? ⟨w.heap.size, 1, none⟩ = some (.slice a2 bs.rules.length c2) := fun wx hC => hC.cell r1 hne1
  have R2 : ∀ wx, Own.CB w4 w.heap.size b zs1 wx → wx.cell? ⟨w.heap.size, 2, none⟩ = some (.slice a3 bs.proms.length c3) := fun wx hC => hC.cell r2 hne1
  have G0 : ∀ wx, Own.CB w4 w.heap.size b zs1 wx → wx.cell? ⟨p4, 0, none⟩ = some (.slice d1 gs.prems.length e1) := fun wx hC => hC.cell g0 hne2
  have G1 : ∀ wx, Own.CB w4 w.heap.size b zs1 wx → wx.cell? ⟨p4, 1, none⟩ = some (.slice d2 gs.rules.length e2) := fun wx hC => hC.cell g1 hne2
  have G2 : ∀ wx, Own.CB w4 w.heap.size b zs1 wx → wx.cell? ⟨p4, 2, none⟩ = some (.slice d3 gs.proms.length e3) := fun wx hC => hC.cell g2 hne2
  have HSP : Hid (∀ wx, Own.CB w4 w.heap.size b zs1 wx → Calls Tryz.prog 16 #[.pointer (some ⟨b, 0, none⟩), .agg #[.slice d1 gs.prems.length e1, .slice d2 gs.rules.length e2, .slice d3 gs.proms.length e3]] wx fun e w'' => ∃ u, e = .returned u ∧ Own.CB w4 w.heap.size b zs1 w'' ∧ Own.GB b wx w'' ∧ Own.relR (Own.rA (Own.isSpB w4.heap.size b 9 7)) wx u w'') := fun wx hC =>
    Own.callSp 8 6 hC (HO4.out.grown hC.1 (fun g e => by injection e with e; omega)) HFIT.out.ok (by omega) (by omega) (by omega) (by omega) (by omega) (by omega) (fun r hr => by have := (HFIT.out.2.1 r hr).2.2.2.2; omega) hb4
  clear r0 r1 r2 g0 g1 g2
  haveI : Nonempty (In (Own.CB w4 w.heap.size b zs1)) := ⟨⟨w4, Own.CB.one _ _ _ _ _ HS4.out⟩⟩
  refine Own.wp_region_rel (Own.CB w4 w.heap.size b zs1) (Own.GB b) (Own.relTab [(30, Own.rA (Own.isSpB w4.heap.size b 9 7)), (31, Own.rA (Own.isThreeB w4.heap.size b 9 7 (.slice a1 bs.prems.length c1) (.slice a2 bs.rules.length c2) (.slice a3 bs.proms.length c3) (.slice d1 gs.prems.length e1) (.slice d2 gs.rules.length e2) (.slice d3 gs.proms.length e3)))]) (by kernel_rfl) (by kernel_rfl) (by kernel_rfl) (Own.stableB_cons (Own.isSpB_up _ _ _ _) (Own.stableB_cons (Own.isThreeB_up _ _ _ _ _ _ _ _ _ _) (Own.stableB_nil _ _))) (Own.CB.start HS4.out) ?_
  repeat (
    refine' Own.walkR_plain (by kernel_rfl) rfl rfl (fun wx hC hL => ?_) ?_
    rotate_left
    · (have hlw := hC.1.size
       have hlw1 := Nat.lt_of_lt_of_le lr hlw
       have hlw2 := Nat.lt_of_lt_of_le lg hlw
       simp only [R0 wx hC, R1 wx hC, R2 wx hC, G0 wx hC, G1 wx hC, G2 wx hC, hlw1, hlw2, go_sem]; first | done | (go_simp; exact ⟨rfl, rfl⟩))
    simp only [Act.put, List.setIfInBounds_toArray, List.set_cons_zero, List.set_cons_succ])
  refine Own.walkR_rel (by kernel_rfl) rfl rfl (of_decide_eq_true (by kernel_rfl)) (fun wx hC hL => ?_) (fun v30 hv30 => ?_)
  · go_simp
    exact HSP.out wx hC
  obtain ⟨_, _, y, hy, -⟩ := hv30
  obtain ⟨f1, f2, f3, k1, k2, k3, rfl, -⟩ := hy.at_.form
  clear hy
  generalize y.prems.length = n1
  generalize y.rules.length = n2
  generalize y.proms.length = n3
  simp only [Act.put, List.setIfInBounds_toArray, List.set_cons_zero, List.set_cons_succ]
  refine Own.walkR_rel (by kernel_rfl) rfl rfl (of_decide_eq_true (by kernel_rfl)) (fun wx hC hL => ?_) (fun v31 hv31 => ?_)
  · have h30 : Own.isSpB w4.heap.size b 9 7 (.agg #[.slice f1 n1 k1, .slice f2 n2 k2, .slice f3 n3 k3]) wx := hL.get 30 (by simp [Own.more]) (by kernel_rfl) rfl rfl
    go_simp
    exact Own.threeB hC h30
  obtain ⟨_, _, nb, _, _, _, rfl, -⟩ := hv31
  simp only [Act.put, List.setIfInBounds_toArray, List.set_cons_zero, List.set_cons_succ]
  repeat (
    refine' Own.walkR_plain (by kernel_rfl) rfl rfl (fun wx hC hL => ?_) ?_
    rotate_left
    · (go_simp; exact ⟨rfl, rfl⟩)
    simp only [Act.put, List.setIfInBounds_toArray, List.set_cons_zero, List.set_cons_succ])
  refine fun w10 hC10 hK => ?_
  obtain ⟨nb', p2, r2', q2, enb, hnb, hrow, ⟨y30, ho30, hk30, hl1, hl2, hl3, hl4, -⟩⟩ : Own.isThreeB w4.heap.size b 9 7 (.slice a1 bs.prems.length c1) (.slice a2 bs.rules.length c2) (.slice a3 bs.proms.length c3) (.slice d1 gs.prems.length e1) (.slice d2 gs.rules.length e2) (.slice d3 gs.proms.length e3) (.slice (some ⟨nb, 0, none⟩) 3 3) w10 := hK.get 31 (by simp [Own.more]) rfl rfl
  injection enb with enb
  injection enb with enb
  injection enb with enb
  subst enb
  obtain ⟨hg10, q9, hs10⟩ := hC10
  have HB10 : Hid (Below w.heap.size w w10) := below_app5 HB4.out hg10 (fun g e => by injection e with e; omega) HB4.out.size
  have HG10 := hidIt ((hg10.block p4 lg (fun e => by injection e with e; omega)).trans HG4.out)
  have HO10 := hidIt (HO4.out.grown hg10 (fun g e => by injection e with e; omega))
  have HS10 := hidIt hs10
  have hnbl := lt_of_block hrow
  have HTHREE : Hid (∀ k, k < 3 → BaseSm w10 b nb k) := by
    intro k hk
    have hk4 : k = 0 ∨ k = 1 ∨ k = 2 := by omega
    rcases hk4 with rfl | rfl | rfl
    · exact baseSm_old hrow rfl rfl rfl HV.out HB10.out (by omega) HOK.out HSR.out
    · exact baseSm_own hrow rfl rfl rfl HO10.out hb2 HFIT.out.ok HSG.out
    · exact baseSm_own hrow rfl rfl rfl ho30 hb4 hk30 ⟨by omega, by omega, by omega, fun r hr => by have := hl4 r hr; omega⟩
  clear hK ho30 hk30 hl1 hl2 hl3 hl4 hg10 hs10 hrow R0 R1 R2 G0 G1 G2 HSP HR4 HG4 HS4 HO4 HB4 HV HOK hnp hnr hnq lr lg hne1
  go_wp2_with fail
  go_loopw [33] (fun i wr => ∃ (k q : Nat), k ≤ 3 ∧ i = .int .i64 k ∧ Hid (SrcAt wr w.heap.size b zs1 q) ∧ Hid (w10.grownBy wr (some b))) (fun i _ => 3 - (intOf i).toNat)
  case atStart => exact ⟨0, q9, Nat.zero_le _, rfl, HS10.out, only_refl _ _⟩
  case round =>
    clear HS10
    obtain ⟨k, q, hk, rfl, HSr, HGr⟩ := hrel
    by_cases hlt : k < 3
    · obtain ⟨p1, p2, p3, j1, j2, j3, x, c0', c1', c2', hxok, hxs, hat⟩ := HTHREE.out k hlt
      have c0 := HGr.out.cell c0' (fun e => hnb (by injection e))
      have c1x := HGr.out.cell c1' (fun e => hnb (by injection e))
      have c2x := HGr.out.cell c2' (fun e => hnb (by injection e))
      have hnbr := Nat.lt_of_lt_of_le hnbl HGr.out.size
      have hltI : (k : Int) < 3 := by omega
      have hk0 : (0 : Int) ≤ (k : Int) := by omega
      have hgr := bgrow wr (.cells #[.slice p1 x.prems.length j1, .slice p2 x.rules.length j2, .slice p3 x.proms.length j3] 26)
      have HG11 := hidIt (only_trans HGr.out (only_of_below hgr (some b)))
      have HS11 := hidIt (HSr.out.grow (only_of_below hgr none))
      have HP11 := hidIt (heap_alloc_new wr (.cells #[.slice p1 x.prems.length j1, .slice p2 x.rules.length j2, .slice p3 x.proms.length j3] 26))
      have HAT := hidIt hat
      have HOKX := hidIt hxok
      have HSM := hidIt hxs
      have hpb : wr.heap.size ≠ b := by have := HSr.out.lt; omega
      have hpl : w10.heap.size ≤ wr.heap.size := HGr.out.size
      clear c0' c1' c2' hxok hxs hat hgr HGr HSr
      go_wp2_with fail
      generalize (wr.alloc (.cells #[.slice p1 x.prems.length j1, .slice p2 x.rules.length j2, .slice p3 x.proms.length j3] 26)) = w11 at *
      obtain ⟨p11, hp11⟩ : ∃ p, p = wr.heap.size := ⟨_, rfl⟩
      rw [← hp11] at HP11 hpb hpl ⊢
      clear hp11 c0 c1x c2x hnbr
      refine (slits2_any 4 3 (by omega) (by omega) (by omega) w.heap.size b zs1 q _ HS11.out).mono ?_
      rintro e w12 ⟨vl, xs, q12, rfl, hown, hxl, hlet, hs12, hg12⟩
      obtain ⟨al, cl, rfl, -, -⟩ := shape_own hown
      have hgr := bgrow w12 (.cells #[.slice au ss.length cu, .slice al xs.length cl, .slice none 0 0] 56)
      have HG13 := hidIt (only_trans (only_trans HG11.out hg12) (only_of_below hgr (some b)))
      have HS13 := hidIt (hs12.grow (only_of_below hgr none))
      have HP13 := hidIt (blk_kept2 ((hg12.block p11 (lt_of_block HP11.out) (fun e => hpb (by injection e))).trans HP11.out) hgr)
      have HL13 := hidIt (heap_alloc_new w12 (.cells #[.slice au ss.length cu, .slice al xs.length cl, .slice none 0 0] 56))
      have hlb : w12.heap.size ≠ b := by have := hs12.lt; omega
      have HLS : Hid (∀ j, j < 3 → ListSm (w12.alloc (.cells #[.slice au ss.length cu, .slice al xs.length cl, .slice none 0 0] 56)) b w12.heap.size j) := by
        intro j hj
        have hj3 : j = 0 ∨ j = 1 ∨ j = 2 := by omega
        rcases hj3 with rfl | rfl | rfl
        · refine ⟨au, cu, ss, cell_of5 HL13.out rfl, HSS.out, by omega, fun wx hg => ?_⟩
          have h1 : Below w.heap.size w wx := below_app5 HB10.out (only_trans HG13.out hg) (fun g e => by injection e with e; omega) HB10.out.size
          exact HU.out.below h1
        · refine ⟨al, cl, xs, cell_of5 HL13.out rfl, short_letters hlet, by omega, fun wx hg => ?_⟩
          have h1 : w12.grownBy wx (some b) := only_trans (only_of_below hgr (some b)) hg
          have hob : OwnL wx w11.heap.size (.slice al xs.length cl) xs := owns_kept hown fun g e => h1.block g (owns_blk hown g e).2 (fun e2 => by have h3 := (owns_blk hown g e).1; have h4 := HS11.out.lt; injection e2 with e2; omega)
          exact hob.lits.lits.body
        · exact ⟨none, 0, [], cell_of5 HL13.out rfl, fun x hx => by simp at hx, by simp, fun wx hg => .inl ⟨noRow_nil, rfl⟩⟩
      clear hown hlet hs12 hg12 hgr HG11 HS11 HP11
      go_wp2_with fail
      generalize (w12.alloc (.cells #[.slice au ss.length cu, .slice al xs.length cl, .slice none 0 0] 56)) = w13 at *
      obtain ⟨pl, hpl2⟩ : ∃ p, p = w12.heap.size := ⟨_, rfl⟩
      rw [← hpl2] at HL13 HLS hlb ⊢
      clear hpl2
      go_loopw [42] (fun i wy => ∃ (j : Nat), j ≤ 3 ∧ i = .int .i64 j ∧ Hid (SrcAt wy w.heap.size b zs1 q12) ∧ Hid (w13.grownBy wy (some b)) ∧ Hid (wy.heap[p11]? = some (.cells #[.slice p1 x.prems.length j1, .slice p2 x.rules.length j2, .slice p3 x.proms.length j3] 26 (0, 0))) ∧ Hid (wy.heap[pl]? = some (.cells #[.slice au ss.length cu, .slice al xs.length cl, .slice none 0 0] 56 (0, 0)))) (fun i _ => 3 - (intOf i).toNat)
      case atStart => exact ⟨0, Nat.zero_le _, rfl, HS13, only_refl _ _, HP13, HL13⟩
      case round =>
        clear HS13 HP13 HL13
        obtain ⟨j, hj, rfl, HSj, HGj, HPj, HLj⟩ := hrel
        by_cases hjl : j < 3
        · have hjI : (j : Int) < 3 := by omega
          have hj0 : (0 : Int) ≤ (j : Int) := by omega
          obtain ⟨ay, cy, ys, y0', hys, hyl, hyat⟩ := HLS.out j hjl
          have y0 := HGj.out.cell y0' (fun e => hlb (by injection e))
          have ly := lt_of_block HLj.out
          have HYS := hidIt hys
          have HYL := hidIt hyl
          have HYAT := hidIt hyat
          clear y0' hys hyl hyat
          obtain ⟨b0, b1, b2⟩ := bcell3 HPj.out
          have lb := lt_of_block HPj.out
          go_wp2_with fail
          refine (bprom_sm HOKX.out HSM.out HYS.out HYL.out (HAT.out _ (only_trans HG13.out HGj.out)) (HYAT.out _ HGj.out)).mono ?_
          rintro e w12b ⟨vc, rfl, hc, hbc⟩
          obtain ⟨s1, s2, s3, t1, t2, t3, rfl, -⟩ := hc.form
          have hgr := bgrow w12b (.cells #[.slice s1 (promB x ys).prems.length t1, .slice s2 (promB x ys).rules.length t2, .slice s3 (promB x ys).proms.length t3] 26)
          have hbd := Below.trans hbc (Below.mono hgr hbc.size)
          have HG14 := hidIt (only_trans HGj.out (only_of_below hbd (some b)))
          have HS14 := hidIt (HSj.out.grow (only_of_below hbd none))
          have HP14 := hidIt (blk_kept2 HPj.out hbd)
          have HL14 := hidIt (blk_kept2 HLj.out hbd)
          have HX14 := hidIt (HAT.out _ (only_trans HG13.out HG14.out))
          have HY14 := hidIt (HYAT.out _ HG14.out)
          have HC14 := hidIt (BaseAt.below hc hgr)
          have HK14 := hidIt (heap_alloc_new w12b (.cells #[.slice s1 (promB x ys).prems.length t1, .slice s2 (promB x ys).rules.length t2, .slice s3 (promB x ys).proms.length t3] 26))
          have HOKC := hidIt (promB_ok ys HOKX.out)
          have HSMC := hidIt (HSM.out.prom ys)
          clear b0 b1 b2 lb y0 ly hc hbc hgr hbd HSj HGj HPj HLj HYAT
          go_wp2_with fail
          generalize (w12b.alloc (.cells #[.slice s1 (promB x ys).prems.length t1, .slice s2 (promB x ys).rules.length t2, .slice s3 (promB x ys).proms.length t3] 26)) = w14 at *
          obtain ⟨p14, hp14⟩ : ∃ p, p = w12b.heap.size := ⟨_, rfl⟩
          rw [← hp14] at HK14 ⊢
          clear hp14
          obtain ⟨b0, b1, b2⟩ := bcell3 HP14.out
          have lb := lt_of_block HP14.out
          obtain ⟨c0, c1x, c2x⟩ := bcell3 HK14.out
          have lc := lt_of_block HK14.out
          have B0 : ∀ wx, Ext w14 wx → wx.cell? ⟨p11, 0, none⟩ = some (.slice p1 x.prems.length j1) := fun wx hC => (Below.cell (p := ⟨p11, 0, none⟩) hC lb).trans b0
          have B1 : ∀ wx, Ext w14 wx → wx.cell? ⟨p11, 1, none⟩ = some (.slice p2 x.rules.length j2) := fun wx hC => (Below.cell (p := ⟨p11, 1, none⟩) hC lb).trans b1
          have B2 : ∀ wx, Ext w14 wx → wx.cell? ⟨p11, 2, none⟩ = some (.slice p3 x.proms.length j3) := fun wx hC => (Below.cell (p := ⟨p11, 2, none⟩) hC lb).trans b2
          have C0 : ∀ wx, Ext w14 wx → wx.cell? ⟨p14, 0, none⟩ = some (.slice s1 (promB x ys).prems.length t1) := fun wx hC => (Below.cell (p := ⟨p14, 0, none⟩) hC lc).trans c0
          have C1 : ∀ wx, Ext w14 wx → wx.cell? ⟨p14, 1, none⟩ = some (.slice s2 (promB x ys).rules.length t2) := fun wx hC => (Below.cell (p := ⟨p14, 1, none⟩) hC lc).trans c1x
          have C2 : ∀ wx, Ext w14 wx → wx.cell? ⟨p14, 2, none⟩ = some (.slice s3 (promB x ys).proms.length t3) := fun wx hC => (Below.cell (p := ⟨p14, 2, none⟩) hC lc).trans c2x
          by_cases hE0 : baseE x = 0
          · have HE0 := hidIt hE0
            have HEC := hidIt (promB_valid ys hE0)
            clear hE0
            haveI := Ext.nonempty w14
            refine Own.wp_region_rel (Ext w14) Grows (Own.relTab [(52, Own.rA (Own.isBs (promB x ys))), (53, Own.rA (Own.isVal (.bool true))), (58, Own.rA (Own.isBs (promB x ys))), (60, Own.rA (Own.isVal (.bool true))), (65, Own.rA (Own.isVal (.int .i64 0))), (69, Own.rA (Own.isVal (.int .i64 0)))]) (by kernel_rfl) (by kernel_rfl) (by kernel_rfl) (Own.stableO_cons (Own.isBs_up _) (Own.stableO_cons (Own.isVal_up _) (Own.stableO_cons (Own.isBs_up _) (Own.stableO_cons (Own.isVal_up _) (Own.stableO_cons (Own.isVal_up _) (Own.stableO_cons (Own.isVal_up _) (Own.stableO_nil _))))))) (Ext.start w14) ?_
            repeat (
              refine' Own.walkR_plain (by kernel_rfl) rfl rfl (fun wx hC hL => ?_) ?_
              rotate_left
              · (have hlw1 := Nat.lt_of_lt_of_le lb (Below.size hC)
                 have hlw2 := Nat.lt_of_lt_of_le lc (Below.size hC)
                 simp only [B0 wx hC, B1 wx hC, B2 wx hC, C0 wx hC, C1 wx hC, C2 wx hC, hlw1, hlw2, go_sem]; first | done | (go_simp; exact ⟨rfl, rfl⟩))
              simp only [Act.put, List.setIfInBounds_toArray, List.set_cons_zero, List.set_cons_succ])
            refine Own.walkR_rel (by kernel_rfl) rfl rfl (of_decide_eq_true (by kernel_rfl)) (fun wx hC hL => ?_) (fun v52 hv52 => ?_)
            · go_simp
              exact Own.callA hC (rprom_sm HSM.out HYL.out (HX14.out.below hC) (HY14.out.below hC))
            clear hv52
            simp only [Act.put, List.setIfInBounds_toArray, List.set_cons_zero, List.set_cons_succ]
            refine Own.walkR_rel (by kernel_rfl) rfl rfl (of_decide_eq_true (by kernel_rfl)) (fun wx hC hL => ?_) (fun v53 hv53 => ?_)
            · have h52 : Own.isBs (promB x ys) v52 wx := hL.get 52 (by simp [Own.more]) (by kernel_rfl) rfl rfl
              go_simp
              exact Own.callA hC ((r5same_is (promB x ys) (promB x ys) _ _ wx (HC14.out.below hC) h52).mono fun e w' ⟨he, hb⟩ => ⟨.bool true, by rw [he, decide_eq_true rfl], rfl, hb⟩)
            obtain ⟨_, _, rfl⟩ := hv53
            simp only [Act.put, List.setIfInBounds_toArray, List.set_cons_zero, List.set_cons_succ]
            repeat (
              refine' Own.walkR_plain (by kernel_rfl) rfl rfl (fun wx hC hL => ?_) ?_
              rotate_left
              · (have hlw1 := Nat.lt_of_lt_of_le lb (Below.size hC)
                 have hlw2 := Nat.lt_of_lt_of_le lc (Below.size hC)
                 simp only [B0 wx hC, B1 wx hC, B2 wx hC, C0 wx hC, C1 wx hC, C2 wx hC, hlw1, hlw2, go_sem]; first | done | (go_simp; exact ⟨rfl, rfl⟩))
              simp only [Act.put, List.setIfInBounds_toArray, List.set_cons_zero, List.set_cons_succ])
            refine Own.walkR_rel (by kernel_rfl) rfl rfl (of_decide_eq_true (by kernel_rfl)) (fun wx hC hL => ?_) (fun v58 hv58 => ?_)
            · go_simp
              exact Own.callA hC ((bprom_sm HOKC.out HSMC.out HYS.out HYL.out (HC14.out.below hC) (HY14.out.below hC)).mono fun e w' ⟨u, he, hu, hb⟩ => ⟨u, he, by rw [promB_twice] at hu; exact hu, hb⟩)
            clear hv58
            simp only [Act.put, List.setIfInBounds_toArray, List.set_cons_zero, List.set_cons_succ]
            repeat (
              refine' Own.walkR_plain (by kernel_rfl) rfl rfl (fun wx hC hL => ?_) ?_
              rotate_left
              · (have hlw1 := Nat.lt_of_lt_of_le lb (Below.size hC)
                 have hlw2 := Nat.lt_of_lt_of_le lc (Below.size hC)
                 simp only [B0 wx hC, B1 wx hC, B2 wx hC, C0 wx hC, C1 wx hC, C2 wx hC, hlw1, hlw2, go_sem]; first | done | (go_simp; exact ⟨rfl, rfl⟩))
              simp only [Act.put, List.setIfInBounds_toArray, List.set_cons_zero, List.set_cons_succ])
            refine Own.walkR_rel (by kernel_rfl) rfl rfl (of_decide_eq_true (by kernel_rfl)) (fun wx hC hL => ?_) (fun v60 hv60 => ?_)
            · have h58 : Own.isBs (promB x ys) v58 wx := hL.get 58 (by simp [Own.more]) (by kernel_rfl) rfl rfl
              go_simp
              exact Own.callA hC ((r5same_is (promB x ys) (promB x ys) _ _ wx h58 (HC14.out.below hC)).mono fun e w' ⟨he, hb⟩ => ⟨.bool true, by rw [he, decide_eq_true rfl], rfl, hb⟩)
            obtain ⟨_, _, rfl⟩ := hv60
            simp only [Act.put, List.setIfInBounds_toArray, List.set_cons_zero, List.set_cons_succ]
            repeat (
              refine' Own.walkR_plain (by kernel_rfl) rfl rfl (fun wx hC hL => ?_) ?_
              rotate_left
              · (have hlw1 := Nat.lt_of_lt_of_le lb (Below.size hC)
                 have hlw2 := Nat.lt_of_lt_of_le lc (Below.size hC)
                 simp only [B0 wx hC, B1 wx hC, B2 wx hC, C0 wx hC, C1 wx hC, C2 wx hC, hlw1, hlw2, go_sem]; first | done | (go_simp; exact ⟨rfl, rfl⟩))
              simp only [Act.put, List.setIfInBounds_toArray, List.set_cons_zero, List.set_cons_succ])
            refine Own.walkR_rel (by kernel_rfl) rfl rfl (of_decide_eq_true (by kernel_rfl)) (fun wx hC hL => ?_) (fun v65 hv65 => ?_)
            · go_simp
              exact Own.callA hC ((r5validate_any x HOKX.out _ wx (HX14.out.below hC)).mono fun e w' ⟨he, hb⟩ => ⟨_, he, by rw [HE0.out]; rfl, hb⟩)
            obtain ⟨_, _, rfl⟩ := hv65
            simp only [Act.put, List.setIfInBounds_toArray, List.set_cons_zero, List.set_cons_succ]
            repeat (
              refine' Own.walkR_plain (by kernel_rfl) rfl rfl (fun wx hC hL => ?_) ?_
              rotate_left
              · (have hlw1 := Nat.lt_of_lt_of_le lb (Below.size hC)
                 have hlw2 := Nat.lt_of_lt_of_le lc (Below.size hC)
                 simp only [B0 wx hC, B1 wx hC, B2 wx hC, C0 wx hC, C1 wx hC, C2 wx hC, hlw1, hlw2, go_sem]; first | done | (go_simp; exact ⟨rfl, rfl⟩))
              simp only [Act.put, List.setIfInBounds_toArray, List.set_cons_zero, List.set_cons_succ])
            refine Own.walkR_rel (by kernel_rfl) rfl rfl (of_decide_eq_true (by kernel_rfl)) (fun wx hC hL => ?_) (fun v69 hv69 => ?_)
            · go_simp
              exact Own.callA hC ((bvalidate_any (promB x ys) HOKC.out _ wx (HC14.out.below hC)).mono fun e w' ⟨he, hb⟩ => ⟨_, he, by rw [HEC.out]; rfl, hb⟩)
            obtain ⟨_, _, rfl⟩ := hv69
            simp only [Act.put, List.setIfInBounds_toArray, List.set_cons_zero, List.set_cons_succ]
            repeat (
              refine' Own.walkR_plain (by kernel_rfl) rfl rfl (fun wx hC hL => ?_) ?_
              rotate_left
              · (have hlw1 := Nat.lt_of_lt_of_le lb (Below.size hC)
                 have hlw2 := Nat.lt_of_lt_of_le lc (Below.size hC)
                 simp only [B0 wx hC, B1 wx hC, B2 wx hC, C0 wx hC, C1 wx hC, C2 wx hC, hlw1, hlw2, go_sem]; first | done | (go_simp; exact ⟨rfl, rfl⟩))
              simp only [Act.put, List.setIfInBounds_toArray, List.set_cons_zero, List.set_cons_succ])
            refine fun w15 hC15 hK => ?_
            have HG15 := hidIt (only_trans HG14.out (only_of_below hC15 (some b)))
            have HS15 := hidIt (HS14.out.grow (only_of_below hC15 none))
            have HP15 := hidIt (blk_kept2 HP14.out hC15)
            have HL15 := hidIt (blk_kept2 HL14.out hC15)
            clear hK hC15 B0 B1 B2 C0 C1 C2 b0 b1 b2 c0 c1x c2x lb lc HG14 HS14 HP14 HL14 HX14 HC14 HY14
            go_wp2_with fail
            go_roundw
            case rel => exact ⟨j + 1, by omega, by go_num, HS15, HG15, HP15, HL15⟩
            case measure => simp [intOf]; omega
          · obtain ⟨E, hEE⟩ : ∃ E, baseE x = E := ⟨_, rfl⟩
            have HE0 := hidIt hEE
            rw [hEE] at hE0
            have hEb : (E == 0) = false := by simpa using hE0
            clear hEE
            haveI := Ext.nonempty w14
            refine Own.wp_region_rel (Ext w14) Grows (Own.relTab [(52, Own.rA (Own.isBs (promB x ys))), (53, Own.rA (Own.isVal (.bool true))), (58, Own.rA (Own.isBs (promB x ys))), (60, Own.rA (Own.isVal (.bool true))), (65, Own.rA (Own.isVal (.int .i64 E)))]) (by kernel_rfl) (by kernel_rfl) (by kernel_rfl) (Own.stableO_cons (Own.isBs_up _) (Own.stableO_cons (Own.isVal_up _) (Own.stableO_cons (Own.isBs_up _) (Own.stableO_cons (Own.isVal_up _) (Own.stableO_cons (Own.isVal_up _) (Own.stableO_nil _)))))) (Ext.start w14) ?_
            repeat (
              refine' Own.walkR_plain (by kernel_rfl) rfl rfl (fun wx hC hL => ?_) ?_
              rotate_left
              · (have hlw1 := Nat.lt_of_lt_of_le lb (Below.size hC)
                 have hlw2 := Nat.lt_of_lt_of_le lc (Below.size hC)
                 simp only [B0 wx hC, B1 wx hC, B2 wx hC, C0 wx hC, C1 wx hC, C2 wx hC, hlw1, hlw2, go_sem]; first | done | (go_simp; exact ⟨rfl, rfl⟩))
              simp only [Act.put, List.setIfInBounds_toArray, List.set_cons_zero, List.set_cons_succ])
            refine Own.walkR_rel (by kernel_rfl) rfl rfl (of_decide_eq_true (by kernel_rfl)) (fun wx hC hL => ?_) (fun v52 hv52 => ?_)
            · go_simp
              exact Own.callA hC (rprom_sm HSM.out HYL.out (HX14.out.below hC) (HY14.out.below hC))
            clear hv52
            simp only [Act.put, List.setIfInBounds_toArray, List.set_cons_zero, List.set_cons_succ]
            refine Own.walkR_rel (by kernel_rfl) rfl rfl (of_decide_eq_true (by kernel_rfl)) (fun wx hC hL => ?_) (fun v53 hv53 => ?_)
            · have h52 : Own.isBs (promB x ys) v52 wx := hL.get 52 (by simp [Own.more]) (by kernel_rfl) rfl rfl
              go_simp
              exact Own.callA hC ((r5same_is (promB x ys) (promB x ys) _ _ wx (HC14.out.below hC) h52).mono fun e w' ⟨he, hb⟩ => ⟨.bool true, by rw [he, decide_eq_true rfl], rfl, hb⟩)
            obtain ⟨_, _, rfl⟩ := hv53
            simp only [Act.put, List.setIfInBounds_toArray, List.set_cons_zero, List.set_cons_succ]
            repeat (
              refine' Own.walkR_plain (by kernel_rfl) rfl rfl (fun wx hC hL => ?_) ?_
              rotate_left
              · (have hlw1 := Nat.lt_of_lt_of_le lb (Below.size hC)
                 have hlw2 := Nat.lt_of_lt_of_le lc (Below.size hC)
                 simp only [B0 wx hC, B1 wx hC, B2 wx hC, C0 wx hC, C1 wx hC, C2 wx hC, hlw1, hlw2, go_sem]; first | done | (go_simp; exact ⟨rfl, rfl⟩))
              simp only [Act.put, List.setIfInBounds_toArray, List.set_cons_zero, List.set_cons_succ])
            refine Own.walkR_rel (by kernel_rfl) rfl rfl (of_decide_eq_true (by kernel_rfl)) (fun wx hC hL => ?_) (fun v58 hv58 => ?_)
            · go_simp
              exact Own.callA hC ((bprom_sm HOKC.out HSMC.out HYS.out HYL.out (HC14.out.below hC) (HY14.out.below hC)).mono fun e w' ⟨u, he, hu, hb⟩ => ⟨u, he, by rw [promB_twice] at hu; exact hu, hb⟩)
            clear hv58
            simp only [Act.put, List.setIfInBounds_toArray, List.set_cons_zero, List.set_cons_succ]
            repeat (
              refine' Own.walkR_plain (by kernel_rfl) rfl rfl (fun wx hC hL => ?_) ?_
              rotate_left
              · (have hlw1 := Nat.lt_of_lt_of_le lb (Below.size hC)
                 have hlw2 := Nat.lt_of_lt_of_le lc (Below.size hC)
                 simp only [B0 wx hC, B1 wx hC, B2 wx hC, C0 wx hC, C1 wx hC, C2 wx hC, hlw1, hlw2, go_sem]; first | done | (go_simp; exact ⟨rfl, rfl⟩))
              simp only [Act.put, List.setIfInBounds_toArray, List.set_cons_zero, List.set_cons_succ])
            refine Own.walkR_rel (by kernel_rfl) rfl rfl (of_decide_eq_true (by kernel_rfl)) (fun wx hC hL => ?_) (fun v60 hv60 => ?_)
            · have h58 : Own.isBs (promB x ys) v58 wx := hL.get 58 (by simp [Own.more]) (by kernel_rfl) rfl rfl
              go_simp
              exact Own.callA hC ((r5same_is (promB x ys) (promB x ys) _ _ wx h58 (HC14.out.below hC)).mono fun e w' ⟨he, hb⟩ => ⟨.bool true, by rw [he, decide_eq_true rfl], rfl, hb⟩)
            obtain ⟨_, _, rfl⟩ := hv60
            simp only [Act.put, List.setIfInBounds_toArray, List.set_cons_zero, List.set_cons_succ]
            repeat (
              refine' Own.walkR_plain (by kernel_rfl) rfl rfl (fun wx hC hL => ?_) ?_
              rotate_left
              · (have hlw1 := Nat.lt_of_lt_of_le lb (Below.size hC)
                 have hlw2 := Nat.lt_of_lt_of_le lc (Below.size hC)
                 simp only [B0 wx hC, B1 wx hC, B2 wx hC, C0 wx hC, C1 wx hC, C2 wx hC, hlw1, hlw2, go_sem]; first | done | (go_simp; exact ⟨rfl, rfl⟩))
              simp only [Act.put, List.setIfInBounds_toArray, List.set_cons_zero, List.set_cons_succ])
            refine Own.walkR_rel (by kernel_rfl) rfl rfl (of_decide_eq_true (by kernel_rfl)) (fun wx hC hL => ?_) (fun v65 hv65 => ?_)
            · go_simp
              exact Own.callA hC ((r5validate_any x HOKX.out _ wx (HX14.out.below hC)).mono fun e w' ⟨he, hb⟩ => ⟨_, he, by rw [HE0.out]; rfl, hb⟩)
            obtain ⟨_, _, rfl⟩ := hv65
            simp only [Act.put, List.setIfInBounds_toArray, List.set_cons_zero, List.set_cons_succ]
            iterate 2 (
              refine' Own.walkR_plain (by kernel_rfl) rfl rfl (fun wx hC hL => ?_) ?_
              rotate_left
              · (have hlw1 := Nat.lt_of_lt_of_le lb (Below.size hC)
                 have hlw2 := Nat.lt_of_lt_of_le lc (Below.size hC)
                 simp only [B0 wx hC, B1 wx hC, B2 wx hC, C0 wx hC, C1 wx hC, C2 wx hC, hlw1, hlw2, go_sem]; first | done | (go_simp; exact ⟨rfl, rfl⟩))
              simp only [Act.put, List.setIfInBounds_toArray, List.set_cons_zero, List.set_cons_succ])
            iterate 3 (refine Own.walkR_skip (by kernel_rfl) ?_; simp only [Act.put, List.setIfInBounds_toArray, List.set_cons_zero, List.set_cons_succ])
            iterate 2 (
              refine' Own.walkR_plain (by kernel_rfl) rfl rfl (fun wx hC hL => ?_) ?_
              rotate_left
              · (have hlw1 := Nat.lt_of_lt_of_le lb (Below.size hC)
                 have hlw2 := Nat.lt_of_lt_of_le lc (Below.size hC)
                 simp only [B0 wx hC, B1 wx hC, B2 wx hC, C0 wx hC, C1 wx hC, C2 wx hC, hlw1, hlw2, go_sem]; first | done | (go_simp; exact ⟨rfl, rfl⟩))
              simp only [Act.put, List.setIfInBounds_toArray, List.set_cons_zero, List.set_cons_succ])
            refine fun w15 hC15 hK => ?_
            have HG15 := hidIt (only_trans HG14.out (only_of_below hC15 (some b)))
            have HS15 := hidIt (HS14.out.grow (only_of_below hC15 none))
            have HP15 := hidIt (blk_kept2 HP14.out hC15)
            have HL15 := hidIt (blk_kept2 HL14.out hC15)
            clear hK hC15 B0 B1 B2 C0 C1 C2 b0 b1 b2 c0 c1x c2x lb lc HG14 HS14 HP14 HL14 HX14 HC14 HY14
            go_wp2_with fail
            go_roundw
            case rel => exact ⟨j + 1, by omega, by go_num, HS15, HG15, HP15, HL15⟩
            case measure => simp [intOf]; omega
        · have hjI : ¬ (j : Int) < 3 := by omega
          obtain rfl : j = 3 := by omega
          have HGk := hidIt (only_trans HG13.out HGj.out)
          go_wp2_with fail
          go_roundw
          case rel => exact ⟨k + 1, q12, by omega, by go_num, HSj, HGk⟩
          case measure => simp [intOf]; omega
    · have hltI : ¬ (k : Int) < 3 := by omega
      have HBr : Hid (Below w.heap.size w wr) := below_app5 HB10.out HGr.out (fun g e => by injection e with e; omega) HB10.out.size
      have HG16 := hidIt ((HGr.out.block p4 (lt_of_block HG10.out) (fun e => by injection e with e; omega)).trans HG10.out)
      have HO16 := hidIt (HO10.out.grown HGr.out (fun g e => by injection e with e; omega)).at_
      obtain rfl : k = 3 := by omega
      go_wp2_with fail
      obtain ⟨g0, g1, g2⟩ := bcell3 HG16.out
      have lg := lt_of_block HG16.out
      have G0 : ∀ wx, Ext wr wx → wx.cell? ⟨p4, 0, none⟩ = some (.slice d1 gs.prems.length e1) := fun wx hC => (Below.cell (p := ⟨p4, 0, none⟩) hC lg).trans g0
      have G1 : ∀ wx, Ext wr wx → wx.cell? ⟨p4, 1, none⟩ = some (.slice d2 gs.rules.length e2) := fun wx hC => (Below.cell (p := ⟨p4, 1, none⟩) hC lg).trans g1
      have G2 : ∀ wx, Ext wr wx → wx.cell? ⟨p4, 2, none⟩ = some (.slice d3 gs.proms.length e3) := fun wx hC => (Below.cell (p := ⟨p4, 2, none⟩) hC lg).trans g2
      haveI := Ext.nonempty wr
      refine Own.wp_region_rel (Ext wr) Grows (Own.relTab [(76, Own.rA (Own.isBs gs)), (78, Own.rA (Own.isVal (.bool true))), (80, Own.rA (Own.isVal (.bool true)))]) (by kernel_rfl) (by kernel_rfl) (by kernel_rfl) (Own.stableO_cons (Own.isBs_up _) (Own.stableO_cons (Own.isVal_up _) (Own.stableO_cons (Own.isVal_up _) (Own.stableO_nil _)))) (Ext.start wr) ?_
      repeat (
        refine' Own.walkR_plain (by kernel_rfl) rfl rfl (fun wx hC hL => ?_) ?_
        rotate_left
        · (have hlw1 := Nat.lt_of_lt_of_le lg (Below.size hC)
           simp only [G0 wx hC, G1 wx hC, G2 wx hC, hlw1, go_sem]; first | done | (go_simp; exact ⟨rfl, rfl⟩))
        simp only [Act.put, List.setIfInBounds_toArray, List.set_cons_zero, List.set_cons_succ])
      refine Own.walkR_rel (by kernel_rfl) rfl rfl (of_decide_eq_true (by kernel_rfl)) (fun wx hC hL => ?_) (fun v76 hv76 => ?_)
      · go_simp
        exact Own.callA hC ((bprom_sm HFIT.out.ok HSG.out (ys := []) (fun x hx => by simp at hx) (by simp) (HO16.out.below hC) (.inl ⟨noRow_nil, rfl⟩)).mono fun e w' ⟨u, he, hu, hb⟩ => ⟨u, he, by rw [promB_empty] at hu; exact hu, hb⟩)
      clear hv76
      simp only [Act.put, List.setIfInBounds_toArray, List.set_cons_zero, List.set_cons_succ]
      repeat (
        refine' Own.walkR_plain (by kernel_rfl) rfl rfl (fun wx hC hL => ?_) ?_
        rotate_left
        · (have hlw1 := Nat.lt_of_lt_of_le lg (Below.size hC)
           simp only [G0 wx hC, G1 wx hC, G2 wx hC, hlw1, go_sem]; first | done | (go_simp; exact ⟨rfl, rfl⟩))
        simp only [Act.put, List.setIfInBounds_toArray, List.set_cons_zero, List.set_cons_succ])
      refine Own.walkR_rel (by kernel_rfl) rfl rfl (of_decide_eq_true (by kernel_rfl)) (fun wx hC hL => ?_) (fun v78 hv78 => ?_)
      · have h76 : Own.isBs gs v76 wx := hL.get 76 (by simp [Own.more]) (by kernel_rfl) rfl rfl
        go_simp
        exact Own.callA hC ((r5same_is gs gs _ _ wx h76 (HO16.out.below hC)).mono fun e w' ⟨he, hb⟩ => ⟨.bool true, by rw [he, decide_eq_true rfl], rfl, hb⟩)
      obtain ⟨_, _, rfl⟩ := hv78
      simp only [Act.put, List.setIfInBounds_toArray, List.set_cons_zero, List.set_cons_succ]
      repeat (
        refine' Own.walkR_plain (by kernel_rfl) rfl rfl (fun wx hC hL => ?_) ?_
        rotate_left
        · (have hlw1 := Nat.lt_of_lt_of_le lg (Below.size hC)
           simp only [G0 wx hC, G1 wx hC, G2 wx hC, hlw1, go_sem]; first | done | (go_simp; exact ⟨rfl, rfl⟩))
        simp only [Act.put, List.setIfInBounds_toArray, List.set_cons_zero, List.set_cons_succ])
      refine Own.walkR_rel (by kernel_rfl) rfl rfl (of_decide_eq_true (by kernel_rfl)) (fun wx hC hL => ?_) (fun v80 hv80 => ?_)
      · go_simp
        exact Own.callA hC ((awake5_any wx (HE.out.go (HBr.out.trans (Below.mono hC HBr.out.size)))).mono fun e w' ⟨he, hb⟩ => ⟨_, he, rfl, hb⟩)
      obtain ⟨_, _, rfl⟩ := hv80
      simp only [Act.put, List.setIfInBounds_toArray, List.set_cons_zero, List.set_cons_succ]
      repeat (
        refine' Own.walkR_plain (by kernel_rfl) rfl rfl (fun wx hC hL => ?_) ?_
        rotate_left
        · (have hlw1 := Nat.lt_of_lt_of_le lg (Below.size hC)
           simp only [G0 wx hC, G1 wx hC, G2 wx hC, hlw1, go_sem]; first | done | (go_simp; exact ⟨rfl, rfl⟩))
        simp only [Act.put, List.setIfInBounds_toArray, List.set_cons_zero, List.set_cons_succ])
      refine fun w16 hC16 hK => ?_
      have HB16 := hidIt (HBr.out.trans (Below.mono hC16 HBr.out.size))
      clear hK hC16
      go_wp2_with fail
      go_ret
      exact ⟨rfl, HB16.out⟩
end Go.Proofs.YtiffcdhiejmbdaaGreatDoor
