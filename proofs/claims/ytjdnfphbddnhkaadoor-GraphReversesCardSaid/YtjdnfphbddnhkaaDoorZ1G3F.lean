/- The law GraphReverses: for any numbers it answers true. -/
import Derived.Test.YtjdnfphbddnhkaaDoorZ1D
import Derived.Test.YtjdnfphbddnhkaaDoorZ1G2A
import Derived.Test.YtjdnfphbddnhkaaDoorG1J

namespace Go.Proofs.YtjdnfphbddnhkaaDoor
set_option linter.unusedVariables false
set_option linter.unusedSimpArgs false
open Go Go.RowKit Go.Sort

def isLq (zss : List (List Int)) : Value → World → Prop := fun v w => LL w v zss
theorem isLq_up (zss : List (List Int)) : GoesUp (isLq zss) := fun _ _ _ hg h => h.below hg

set_option maxRecDepth 100000 in
set_option maxHeartbeats 8000000 in
theorem reverses_walk (lv : Value) (zs : List Int) (w : World) (hz : IntsAt w w.heap.size lv zs) (hT : Tab w) :
    Calls Tryd.prog 6 #[lv] w fun e w' => e = .returned (.bool true) ∧ Below w.heap.size w w' := by
  have HT := hidIt hT
  have HZ := hidIt hz
  clear hz hT
  go_enter Tryd.func6, Tryd.ntmps6
  go_wp2_with fail
  refine (new_any lv zs w.heap.size w HZ.out (Nat.le_refl _)).mono ?_
  rintro e w1 ⟨zs', rfl, hs1, o1, rfl⟩
  have HS1 := hidIt hs1
  have HB1 := hidIt (bgrow w o1)
  have hsz1 : w.heap.size < (w.alloc o1).heap.size := hs1.lt
  clear hs1
  generalize w.alloc o1 = w1 at *
  go_wp2_with fail
  refine (kGraph_any 9 (by decide) _ _ _ _ w1 HS1.out).mono ?_
  rintro e w2 ⟨N, ps, ga, gc, k2, rfl, hN, hok, hpl, hop, hs2, hg2⟩
  have HOK := hidIt hok
  have HPL := hidIt hpl
  have hgr := bgrow w2 (.cells #[.int .i64 (N : Int), .slice ga ps.length gc] 24)
  have HP3 := hidIt ((hop.below hgr).lits)
  have HX3 := hidIt (heap_alloc_new w2 (.cells #[.int .i64 (N : Int), .slice ga ps.length gc] 24))
  have HB2 := hidIt (below_read HB1.out hg2 (Nat.le_of_lt hsz1))
  have HB3 := hidIt (HB2.out.trans (Below.mono hgr HB2.out.size))
  have hG : w.heap.size < w2.heap.size := Nat.lt_of_lt_of_le hsz1 hg2.size
  clear hok hpl hop hs2 hg2 hgr HB2 HS1 HB1
  go_upto_region 3 with (fail)
  generalize hw3 : (w2.alloc (.cells #[.int .i64 (N : Int), .slice ga ps.length gc] 24)) = w3 at *
  have hsz3 : w.heap.size < w3.heap.size := by rw [← hw3, World.size_alloc]; omega
  clear hw3
  generalize w2.heap.size = G at *
  obtain ⟨x0, x1⟩ := And.intro (cell_two0 HX3.out) (cell_two1 HX3.out)
  have lx := lt_of_block HX3.out
  have HCR3 : Hid (Calls Tryd.prog 16 #[.agg #[.int .i64 (N : Int), .slice ga ps.length gc]] w3 fun e w' => ∃ v', e = .returned (.agg #[.int .i64 (N : Int), v']) ∧ PairsAt w' v' (revL N ps) ∧ Below w3.heap.size w3 w') := by
    have h := gReverse_any (N : Int) _ ps w3 HP3.out HPL.out
    have e : rvL (N : Int) ps = revL N ps := by unfold rvL; rw [vN_of HOK.out, vL_of HOK.out]; rfl
    rw [e, vN_of HOK.out] at h
    exact h
  go_wp2_with fail
  refine HCR3.out.mono ?_
  rintro e w4 ⟨hv, rfl, hhp, hb4⟩
  obtain ⟨l1, c1, g1⟩ := comp_exists HOK.out
  obtain ⟨l2, c2, g2⟩ := comp_exists (rev_ok HOK.out)
  obtain ⟨gl, gsub⟩ := comp_rev HOK.out g1 g2
  have HC1 := hidIt c1
  have HC2 := hidIt c2
  have HLS : Hid ((listsOf l1).length = (listsOf l2).length) := by show _ = _; rw [lists_len, lists_len]; exact gl
  have HIN : Hid (∀ z ∈ listsOf l1, z ∈ listsOf l2) := lists_in gsub
  have HRR : Hid (revL N (revL N ps) = ps) := rev_rev HOK.out
  have HROK : Hid (GOk (N : Int) (revL N ps)) := rev_ok HOK.out
  have HRL : Hid ((revL N ps).length ≤ 1000) := by show _ ≤ _; rw [revL_len N ps HOK.out]; exact HPL.out
  have HOUT : Hid (∀ i : Nat, i < N → outL (revL N ps) (i : Int) = inL ps (i : Int)) := fun i hi => by
    rw [out_rev ps _ (by omega), if_pos (by omega)]
  have HHAS : Hid (∀ i k : Nat, k < N → decide (((k : Int), (i : Int)) ∈ revL N ps) = decide (((i : Int), (k : Int)) ∈ ps)) := fun i k hk => has_rev i k hk
  have HRCH : Hid (∀ i k : Nat, i < N → k < N → decide ((i : Int) ∈ reachL (N : Int) (revL N ps) (k : Int)) = decide ((k : Int) ∈ reachL (N : Int) ps (i : Int))) := fun i k hi hk => reach_rev HOK.out i k hi hk
  clear c1 c2 g1 g2 gl gsub
  have HR0 := hidIt hhp
  clear hhp HCR3
  generalize revL N ps = R at *
  obtain ⟨ha, hc, rfl, -⟩ := HR0.out.form
  have hg5 := bgrow w4 (.cells #[.int .i64 (N : Int), .slice ha R.length hc] 24)
  have hb45 := hb4.trans (Below.mono hg5 hb4.size)
  have HP := hidIt (HP3.out.below hb45)
  have HR := hidIt (HR0.out.below hg5)
  have HX := hidIt (blk_kept2 HX3.out hb45)
  have HY := hidIt (heap_alloc_new w4 (.cells #[.int .i64 (N : Int), .slice ha R.length hc] 24))
  have HB5 := hidIt (HB3.out.trans (Below.mono hb45 HB3.out.size))
  have HT5 := hidIt (HT.out.go HB5.out)
  clear hb4 hg5 hb45 HP3 HX3 HB3 HR0 x0 x1 lx HT
  go_upto_region 4 with (fail)
  generalize (w4.alloc (.cells #[.int .i64 (N : Int), .slice ha R.length hc] 24)) = w5 at *
  generalize w4.heap.size = Y at *
  obtain ⟨x0, x1⟩ := And.intro (cell_two0 HX.out) (cell_two1 HX.out)
  have lx := lt_of_block HX.out
  obtain ⟨y0, y1⟩ := And.intro (cell_two0 HY.out) (cell_two1 HY.out)
  have ly := lt_of_block HY.out
  have PL6 : ps.length ≤ 1000000 := by have := HPL.out; omega
  have RL6 : R.length ≤ 1000000 := by have := HRL.out; omega
  have CR : Hid (∀ wx, Ext w5 wx → Calls Tryd.prog 16 #[.agg #[.int .i64 (N : Int), .slice ha R.length hc]] wx fun e w'' => ∃ u, e = .returned u ∧ Ext w5 w'' ∧ Grows wx w'' ∧ isGq (N : Int) ps u w'') := fun wx hC => by
    have h := gReverse_any (N : Int) _ R wx (HR.out.below hC) HRL.out
    rw [show rvL (N : Int) R = ps by unfold rvL; rw [vN_of HROK.out, vL_of HROK.out]; exact HRR.out, vN_of HROK.out] at h
    exact rel_call hC (h.mono fun e w'' ⟨v, h1, h2, h3⟩ => ⟨_, h1, isGq_of h2, h3⟩)
  have CV : Hid (∀ wx, Ext w5 wx → Calls Tryd.prog 11 #[.agg #[.int .i64 (N : Int), .slice ha R.length hc]] wx fun e w'' => ∃ u, e = .returned u ∧ Ext w5 w'' ∧ Grows wx w'' ∧ isVq (.int .i64 0) u w'') := fun wx hC => by
    have h := gValidate_any (N : Int) _ R wx (HR.out.below hC) RL6
    rw [valE_of HROK.out] at h
    exact rel_call hC (h.mono fun e w'' ⟨h1, h2⟩ => ⟨_, h1, rfl, h2⟩)
  have CS : Hid (∀ wx a1 c1, Ext w5 wx → PairsAt wx (.slice a1 ps.length c1) ps → Calls Tryd.prog 15 #[.agg #[.int .i64 (N : Int), .slice a1 ps.length c1], .agg #[.int .i64 (N : Int), .slice ga ps.length gc]] wx fun e w'' => ∃ u, e = .returned u ∧ Ext w5 w'' ∧ Grows wx w'' ∧ isB true u w'') := fun wx a1 c1 hC h1 => rel_call hC ((rgSame_any _ _ _ _ _ _ wx h1 (HP.out.below hC) PL6 PL6).mono fun e w'' ⟨h3, h4⟩ => ⟨_, h3, (by rw [sameB_self]; rfl), h4⟩)
  have X0 : ∀ wx, Ext w5 wx → wx.cell? ⟨G, 0, none⟩ = some (.int .i64 (N : Int)) := fun wx hC => (Below.cell (p := ⟨G, 0, none⟩) hC lx).trans x0
  have X1 : ∀ wx, Ext w5 wx → wx.cell? ⟨G, 1, none⟩ = some (.slice ga ps.length gc) := fun wx hC => (Below.cell (p := ⟨G, 1, none⟩) hC lx).trans x1
  have Y0 : ∀ wx, Ext w5 wx → wx.cell? ⟨Y, 0, none⟩ = some (.int .i64 (N : Int)) := fun wx hC => (Below.cell (p := ⟨Y, 0, none⟩) hC ly).trans y0
  have Y1 : ∀ wx, Ext w5 wx → wx.cell? ⟨Y, 1, none⟩ = some (.slice ha R.length hc) := fun wx hC => (Below.cell (p := ⟨Y, 1, none⟩) hC ly).trans y1
  haveI := Ext.nonempty w5
  refine wp_region_rel (Ext w5) Grows (relTab [(22, isGq (N : Int) ps), (24, isB true), (28, isVq (.int .i64 0))]) (by kernel_rfl) (by kernel_rfl) (by kernel_rfl) (stable_cons (isGq_up _ _) (stable_cons (isB_up _) (stable_cons (isVq_up _) (stable_nil _)))) (Ext.start w5) ?_
  repeat (
    refine' walkR_plain (by kernel_rfl) rfl rfl (fun wx hC hL => ?_) ?_
    rotate_left
    · (have hls := Below.size hC
       have hllx := Nat.lt_of_lt_of_le lx hls
       have hlly := Nat.lt_of_lt_of_le ly hls
       simp only [X0 wx hC, X1 wx hC, hllx, Y0 wx hC, Y1 wx hC, hlly, go_sem]; first | done | (go_simp; exact ⟨rfl, rfl⟩))
    simp only [Act.put, List.setIfInBounds_toArray, List.set_cons_zero, List.set_cons_succ])
  refine walkR_rel (by kernel_rfl) rfl rfl (of_decide_eq_true (by kernel_rfl)) (fun wx hC hL => ?_) (fun v hv => ?_)
  · go_simp
    exact CR.out wx hC
  obtain ⟨_, _, a22, c22, rfl, -⟩ := hv
  simp only [Act.put, List.setIfInBounds_toArray, List.set_cons_zero, List.set_cons_succ]
  repeat (
    refine' walkR_plain (by kernel_rfl) rfl rfl (fun wx hC hL => ?_) ?_
    rotate_left
    · (have hls := Below.size hC
       have hllx := Nat.lt_of_lt_of_le lx hls
       have hlly := Nat.lt_of_lt_of_le ly hls
       simp only [X0 wx hC, X1 wx hC, hllx, Y0 wx hC, Y1 wx hC, hlly, go_sem]; first | done | (go_simp; exact ⟨rfl, rfl⟩))
    simp only [Act.put, List.setIfInBounds_toArray, List.set_cons_zero, List.set_cons_succ])
  refine walkR_rel (by kernel_rfl) rfl rfl (of_decide_eq_true (by kernel_rfl)) (fun wx hC hL => ?_) (fun v hv => ?_)
  · have k22 := hidIt (isGq_use (ps := ps) (hL.get 22 (by simp [more]) (by kernel_rfl) rfl rfl))
    go_simp
    exact CS.out wx a22 c22 hC k22.out
  obtain ⟨_, _, rfl⟩ := hv
  simp only [Act.put, List.setIfInBounds_toArray, List.set_cons_zero, List.set_cons_succ]
  repeat (
    refine' walkR_plain (by kernel_rfl) rfl rfl (fun wx hC hL => ?_) ?_
    rotate_left
    · (have hls := Below.size hC
       have hllx := Nat.lt_of_lt_of_le lx hls
       have hlly := Nat.lt_of_lt_of_le ly hls
       simp only [X0 wx hC, X1 wx hC, hllx, Y0 wx hC, Y1 wx hC, hlly, go_sem]; first | done | (go_simp; exact ⟨rfl, rfl⟩))
    simp only [Act.put, List.setIfInBounds_toArray, List.set_cons_zero, List.set_cons_succ])
  refine walkR_rel (by kernel_rfl) rfl rfl (of_decide_eq_true (by kernel_rfl)) (fun wx hC hL => ?_) (fun v hv => ?_)
  · go_simp
    exact CV.out wx hC
  obtain ⟨_, _, rfl⟩ := hv
  simp only [Act.put, List.setIfInBounds_toArray, List.set_cons_zero, List.set_cons_succ]
  repeat (
    refine' walkR_plain (by kernel_rfl) rfl rfl (fun wx hC hL => ?_) ?_
    rotate_left
    · (have hls := Below.size hC
       have hllx := Nat.lt_of_lt_of_le lx hls
       have hlly := Nat.lt_of_lt_of_le ly hls
       simp only [X0 wx hC, X1 wx hC, hllx, Y0 wx hC, Y1 wx hC, hlly, go_sem]; first | done | (go_simp; exact ⟨rfl, rfl⟩))
    simp only [Act.put, List.setIfInBounds_toArray, List.set_cons_zero, List.set_cons_succ])
  refine fun w6 hC6 hK => ?_
  have hb6 : Below w5.heap.size w5 w6 := hC6
  have HP6 := hidIt (HP.out.below hb6)
  have HR6 := hidIt (HR.out.below hb6)
  have HX6 := hidIt (blk_kept2 HX.out hb6)
  have HY6 := hidIt (blk_kept2 HY.out hb6)
  have HT6 := hidIt (HT5.out.go hb6)
  have HB6 := hidIt (HB5.out.trans (Below.mono hb6 HB5.out.size))
  clear hK hC6 hb6 X0 X1 Y0 Y1 x0 x1 lx y0 y1 ly CR CV CS HP HR HX HY HT5 HB5
  go_upto_region 7 with (fail)
  go_loopw [6, 7] (fun vi _ wr => ∃ i : Nat, i ≤ N ∧ vi = .int .i64 (i : Int) ∧ Hid (Below w6.heap.size w6 wr)) (fun vi _ _ => N - (intOf vi).toNat)
  case atStart => exact ⟨0, Nat.zero_le _, (by first | rfl | trivial), Below.refl _ _⟩
  case round =>
    obtain ⟨i, hi, rfl, HB⟩ := hrel
    have hi0 : (0 : Int) ≤ (i : Int) := by omega
    have HX := hidIt (blk_kept2 HX6.out HB.out)
    have HY := hidIt (blk_kept2 HY6.out HB.out)
    have HP := hidIt (HP6.out.below HB.out)
    have HR := hidIt (HR6.out.below HB.out)
    have HTr := hidIt (HT6.out.go HB.out)
    obtain ⟨x0, x1⟩ := And.intro (cell_two0 HX.out) (cell_two1 HX.out)
    have lx := lt_of_block HX.out
    obtain ⟨y0, y1⟩ := And.intro (cell_two0 HY.out) (cell_two1 HY.out)
    have ly := lt_of_block HY.out
    by_cases hil : i < N
    · have hiI : (i : Int) < (N : Int) := by omega
      go_upto_region 9 with (fail)
      have OL : Hid ((inL ps (i : Int)).length ≤ 1000000) := by show _ ≤ _; have := inL_len ps (i : Int); omega
      have CA : Hid (∀ wx, Ext wr wx → Calls Tryd.prog 19 #[.agg #[.int .i64 (N : Int), .slice ga ps.length gc], .int .i64 (i : Int)] wx fun e w'' => ∃ u, e = .returned u ∧ Ext wr w'' ∧ Grows wx w'' ∧ isIq (inL ps (i : Int)).length (inL ps (i : Int)) u w'') := fun wx hC => by
        have h := gAttackers_any (N : Int) _ ps (i : Int) wx (HP.out.below hC) HPL.out
        rw [vL_of HOK.out] at h
        exact rel_call hC (h.mono fun e w'' ⟨v, h1, h2, h3⟩ => ⟨_, h1, isIq_of h2, h3⟩)
      have CD : Hid (∀ wx, Ext wr wx → Calls Tryd.prog 21 #[.agg #[.int .i64 (N : Int), .slice ha R.length hc], .int .i64 (i : Int)] wx fun e w'' => ∃ u, e = .returned u ∧ Ext wr w'' ∧ Grows wx w'' ∧ isIq (inL ps (i : Int)).length (inL ps (i : Int)) u w'') := fun wx hC => by
        have h := gAttacked_any (N : Int) _ R (i : Int) wx (HR.out.below hC) HRL.out
        rw [vL_of HROK.out, HOUT.out i hil] at h
        exact rel_call hC (h.mono fun e w'' ⟨v, h1, h2, h3⟩ => ⟨_, h1, isIq_of h2, h3⟩)
      have CK : Hid (∀ (l : List Int) (ll : Nat) wx a1 c1 a2 c2, l.length ≤ 1000000 → Ext wr wx → IL wx (.slice a1 ll c1) l → IL wx (.slice a2 ll c2) l → Calls Tryd.prog 18 #[.slice a1 ll c1, .slice a2 ll c2] wx fun e w'' => ∃ u, e = .returned u ∧ Ext wr w'' ∧ Grows wx w'' ∧ isB true u w'') := fun l ll wx a1 c1 a2 c2 hl hC h1 h2 => rel_call hC ((kInts_any _ _ _ _ wx h1 h2 hl hl).mono fun e w'' ⟨h3, h4⟩ => ⟨_, h3, (by rw [decide_eq_true rfl]; rfl), h4⟩)
      generalize inL ps (i : Int) = li at CA CD OL
      generalize hll : li.length = ll at CA CD
      clear hll
      have X0 : ∀ wx, Ext wr wx → wx.cell? ⟨G, 0, none⟩ = some (.int .i64 (N : Int)) := fun wx hC => (Below.cell (p := ⟨G, 0, none⟩) hC lx).trans x0
      have X1 : ∀ wx, Ext wr wx → wx.cell? ⟨G, 1, none⟩ = some (.slice ga ps.length gc) := fun wx hC => (Below.cell (p := ⟨G, 1, none⟩) hC lx).trans x1
      have Y0 : ∀ wx, Ext wr wx → wx.cell? ⟨Y, 0, none⟩ = some (.int .i64 (N : Int)) := fun wx hC => (Below.cell (p := ⟨Y, 0, none⟩) hC ly).trans y0
      have Y1 : ∀ wx, Ext wr wx → wx.cell? ⟨Y, 1, none⟩ = some (.slice ha R.length hc) := fun wx hC => (Below.cell (p := ⟨Y, 1, none⟩) hC ly).trans y1
      haveI := Ext.nonempty wr
      refine wp_region_rel (Ext wr) Grows (relTab [(39, isIq ll li), (42, isIq ll li), (43, isB true)]) (by kernel_rfl) (by kernel_rfl) (by kernel_rfl) (stable_cons (isIq_up _ _) (stable_cons (isIq_up _ _) (stable_cons (isB_up _) (stable_nil _)))) (Ext.start wr) ?_
      repeat (
        refine' walkR_plain (by kernel_rfl) rfl rfl (fun wx hC hL => ?_) ?_
        rotate_left
        · (have hls := Below.size hC
           have hllx := Nat.lt_of_lt_of_le lx hls
           have hlly := Nat.lt_of_lt_of_le ly hls
           simp only [X0 wx hC, X1 wx hC, hllx, Y0 wx hC, Y1 wx hC, hlly, go_sem]; first | done | (go_simp; exact ⟨rfl, rfl⟩))
        simp only [Act.put, List.setIfInBounds_toArray, List.set_cons_zero, List.set_cons_succ])
      refine walkR_rel (by kernel_rfl) rfl rfl (of_decide_eq_true (by kernel_rfl)) (fun wx hC hL => ?_) (fun v hv => ?_)
      · go_simp
        exact CA.out wx hC
      obtain ⟨_, _, a39, c39, rfl, -⟩ := hv
      simp only [Act.put, List.setIfInBounds_toArray, List.set_cons_zero, List.set_cons_succ]
      repeat (
        refine' walkR_plain (by kernel_rfl) rfl rfl (fun wx hC hL => ?_) ?_
        rotate_left
        · (have hls := Below.size hC
           have hllx := Nat.lt_of_lt_of_le lx hls
           have hlly := Nat.lt_of_lt_of_le ly hls
           simp only [X0 wx hC, X1 wx hC, hllx, Y0 wx hC, Y1 wx hC, hlly, go_sem]; first | done | (go_simp; exact ⟨rfl, rfl⟩))
        simp only [Act.put, List.setIfInBounds_toArray, List.set_cons_zero, List.set_cons_succ])
      refine walkR_rel (by kernel_rfl) rfl rfl (of_decide_eq_true (by kernel_rfl)) (fun wx hC hL => ?_) (fun v hv => ?_)
      · go_simp
        exact CD.out wx hC
      obtain ⟨_, _, a42, c42, rfl, -⟩ := hv
      simp only [Act.put, List.setIfInBounds_toArray, List.set_cons_zero, List.set_cons_succ]
      repeat (
        refine' walkR_plain (by kernel_rfl) rfl rfl (fun wx hC hL => ?_) ?_
        rotate_left
        · (have hls := Below.size hC
           have hllx := Nat.lt_of_lt_of_le lx hls
           have hlly := Nat.lt_of_lt_of_le ly hls
           simp only [X0 wx hC, X1 wx hC, hllx, Y0 wx hC, Y1 wx hC, hlly, go_sem]; first | done | (go_simp; exact ⟨rfl, rfl⟩))
        simp only [Act.put, List.setIfInBounds_toArray, List.set_cons_zero, List.set_cons_succ])
      refine walkR_rel (by kernel_rfl) rfl rfl (of_decide_eq_true (by kernel_rfl)) (fun wx hC hL => ?_) (fun v hv => ?_)
      · have j39 := hidIt (isIq_use (xs := li) (hL.get 39 (by simp [more]) (by kernel_rfl) rfl rfl))
        have j42 := hidIt (isIq_use (xs := li) (hL.get 42 (by simp [more]) (by kernel_rfl) rfl rfl))
        go_simp
        exact CK.out li _ wx a39 c39 a42 c42 OL.out hC j39.out j42.out
      obtain ⟨_, _, rfl⟩ := hv
      simp only [Act.put, List.setIfInBounds_toArray, List.set_cons_zero, List.set_cons_succ]
      repeat (
        refine' walkR_plain (by kernel_rfl) rfl rfl (fun wx hC hL => ?_) ?_
        rotate_left
        · (have hls := Below.size hC
           have hllx := Nat.lt_of_lt_of_le lx hls
           have hlly := Nat.lt_of_lt_of_le ly hls
           simp only [X0 wx hC, X1 wx hC, hllx, Y0 wx hC, Y1 wx hC, hlly, go_sem]; first | done | (go_simp; exact ⟨rfl, rfl⟩))
        simp only [Act.put, List.setIfInBounds_toArray, List.set_cons_zero, List.set_cons_succ])
      refine fun w9 hC9 hK => ?_
      have hb9 : Below wr.heap.size wr w9 := hC9
      have HB9 := hidIt (HB.out.trans (Below.mono hb9 HB.out.size))
      have HX9 := hidIt (blk_kept2 HX.out hb9)
      have HY9 := hidIt (blk_kept2 HY.out hb9)
      have HP9 := hidIt (HP.out.below hb9)
      have HR9 := hidIt (HR.out.below hb9)
      have HT9 := hidIt (HTr.out.go hb9)
      clear hK hC9 hb9 X0 X1 Y0 Y1 x0 x1 lx y0 y1 ly CA CD CK OL HP HR HX HY HTr HB
      go_upto_region 12 with (fail)
      go_loopw [7] (fun vk wr => ∃ k : Nat, k ≤ N ∧ vk = .int .i64 (k : Int) ∧ Hid (Below w9.heap.size w9 wr)) (fun vk _ => N - (intOf vk).toNat)
      case atStart => exact ⟨0, Nat.zero_le _, (by first | rfl | trivial), Below.refl _ _⟩
      case round =>
        obtain ⟨k, hk, rfl, HB⟩ := hrel
        have hk0 : (0 : Int) ≤ (k : Int) := by omega
        have HX := hidIt (blk_kept2 HX9.out HB.out)
        have HY := hidIt (blk_kept2 HY9.out HB.out)
        have HP := hidIt (HP9.out.below HB.out)
        have HR := hidIt (HR9.out.below HB.out)
        have HTr := hidIt (HT9.out.go HB.out)
        obtain ⟨x0, x1⟩ := And.intro (cell_two0 HX.out) (cell_two1 HX.out)
        have lx := lt_of_block HX.out
        obtain ⟨y0, y1⟩ := And.intro (cell_two0 HY.out) (cell_two1 HY.out)
        have ly := lt_of_block HY.out
        by_cases hkl : k < N
        · have hkI : (k : Int) < (N : Int) := by omega
          go_upto_region 14 with (fail)
          have RL1 : Hid ((reachL (N : Int) ps (i : Int)).length ≤ 1000000) := by show _ ≤ _; have := reachL_len2 (N : Int) ps (i : Int); rw [vN_of HOK.out, vL_of HOK.out] at this; omega
          have RL2 : Hid ((reachL (N : Int) R (k : Int)).length ≤ 1000000) := by show _ ≤ _; have := reachL_len2 (N : Int) R (k : Int); rw [vN_of HROK.out, vL_of HROK.out] at this; omega
          have CH1 : Hid (∀ wx, Ext wr wx → Calls Tryd.prog 13 #[.agg #[.int .i64 (N : Int), .slice ga ps.length gc], .int .i64 (i : Int), .int .i64 (k : Int)] wx fun e w'' => ∃ u, e = .returned u ∧ Ext wr w'' ∧ Grows wx w'' ∧ isB (decide (((i : Int), (k : Int)) ∈ ps)) u w'') := fun wx hC => by
            have h := gHas_any (N : Int) _ ps (i : Int) (k : Int) wx (HP.out.below hC) PL6
            rw [vL_of HOK.out] at h
            exact rel_call hC (h.mono fun e w'' ⟨h1, h2⟩ => ⟨_, h1, rfl, h2⟩)
          have CH2 : Hid (∀ wx, Ext wr wx → Calls Tryd.prog 13 #[.agg #[.int .i64 (N : Int), .slice ha R.length hc], .int .i64 (k : Int), .int .i64 (i : Int)] wx fun e w'' => ∃ u, e = .returned u ∧ Ext wr w'' ∧ Grows wx w'' ∧ isB (decide (((i : Int), (k : Int)) ∈ ps)) u w'') := fun wx hC => by
            have h := gHas_any (N : Int) _ R (k : Int) (i : Int) wx (HR.out.below hC) RL6
            rw [vL_of HROK.out, HHAS.out i k hkl] at h
            exact rel_call hC (h.mono fun e w'' ⟨h1, h2⟩ => ⟨_, h1, rfl, h2⟩)
          have CE1 : Hid (∀ wx, Ext wr wx → Calls Tryd.prog 23 #[.agg #[.int .i64 (N : Int), .slice ga ps.length gc], .int .i64 (i : Int)] wx fun e w'' => ∃ u, e = .returned u ∧ Ext wr w'' ∧ Grows wx w'' ∧ isIq (reachL (N : Int) ps (i : Int)).length (reachL (N : Int) ps (i : Int)) u w'') := fun wx hC => by
            have h := gReach_any (N : Int) _ ps (i : Int) wx (HP.out.below hC) HPL.out (HTr.out.go hC)
            rw [vN_of HOK.out, vL_of HOK.out] at h
            exact rel_call hC (h.mono fun e w'' ⟨v, h1, h2, h3⟩ => ⟨_, h1, isIq_of h2, h3⟩)
          have CE2 : Hid (∀ wx, Ext wr wx → Calls Tryd.prog 23 #[.agg #[.int .i64 (N : Int), .slice ha R.length hc], .int .i64 (k : Int)] wx fun e w'' => ∃ u, e = .returned u ∧ Ext wr w'' ∧ Grows wx w'' ∧ isIq (reachL (N : Int) R (k : Int)).length (reachL (N : Int) R (k : Int)) u w'') := fun wx hC => by
            have h := gReach_any (N : Int) _ R (k : Int) wx (HR.out.below hC) HRL.out (HTr.out.go hC)
            rw [vN_of HROK.out, vL_of HROK.out] at h
            exact rel_call hC (h.mono fun e w'' ⟨v, h1, h2, h3⟩ => ⟨_, h1, isIq_of h2, h3⟩)
          have CN1 : Hid (∀ wx a1 c1, Ext wr wx → IL wx (.slice a1 (reachL (N : Int) ps (i : Int)).length c1) (reachL (N : Int) ps (i : Int)) → Calls Tryd.prog 34 #[.slice a1 (reachL (N : Int) ps (i : Int)).length c1, .int .i64 (k : Int)] wx fun e w'' => ∃ u, e = .returned u ∧ Ext wr w'' ∧ Grows wx w'' ∧ isB (decide ((k : Int) ∈ (reachL (N : Int) ps (i : Int)))) u w'') := fun wx a1 c1 hC h1 => rel_call hC ((kIn_any _ _ _ wx h1 RL1.out).mono fun e w'' ⟨h3, h4⟩ => ⟨_, h3, rfl, by rw [h4]; exact Below.refl _ _⟩)
          have CN2 : Hid (∀ wx a1 c1, Ext wr wx → IL wx (.slice a1 (reachL (N : Int) R (k : Int)).length c1) (reachL (N : Int) R (k : Int)) → Calls Tryd.prog 34 #[.slice a1 (reachL (N : Int) R (k : Int)).length c1, .int .i64 (i : Int)] wx fun e w'' => ∃ u, e = .returned u ∧ Ext wr w'' ∧ Grows wx w'' ∧ isB (decide ((k : Int) ∈ (reachL (N : Int) ps (i : Int)))) u w'') := fun wx a1 c1 hC h1 => rel_call hC ((kIn_any _ _ _ wx h1 RL2.out).mono fun e w'' ⟨h3, h4⟩ => ⟨_, h3, (by rw [HRCH.out i k hil hkl]; rfl), by rw [h4]; exact Below.refl _ _⟩)
          generalize decide ((k : Int) ∈ (reachL (N : Int) ps (i : Int))) = B1 at CN1 CN2
          generalize decide (((i : Int), (k : Int)) ∈ ps) = B2 at CH1 CH2
          generalize (reachL (N : Int) ps (i : Int)) = r1 at CE1 CN1 RL1
          generalize (reachL (N : Int) R (k : Int)) = r2 at CE2 CN2 RL2
          generalize hq1 : r1.length = q1 at CE1 CN1
          generalize hq2 : r2.length = q2 at CE2 CN2
          clear hq1 hq2
          have X0 : ∀ wx, Ext wr wx → wx.cell? ⟨G, 0, none⟩ = some (.int .i64 (N : Int)) := fun wx hC => (Below.cell (p := ⟨G, 0, none⟩) hC lx).trans x0
          have X1 : ∀ wx, Ext wr wx → wx.cell? ⟨G, 1, none⟩ = some (.slice ga ps.length gc) := fun wx hC => (Below.cell (p := ⟨G, 1, none⟩) hC lx).trans x1
          have Y0 : ∀ wx, Ext wr wx → wx.cell? ⟨Y, 0, none⟩ = some (.int .i64 (N : Int)) := fun wx hC => (Below.cell (p := ⟨Y, 0, none⟩) hC ly).trans y0
          have Y1 : ∀ wx, Ext wr wx → wx.cell? ⟨Y, 1, none⟩ = some (.slice ha R.length hc) := fun wx hC => (Below.cell (p := ⟨Y, 1, none⟩) hC ly).trans y1
          haveI := Ext.nonempty wr
          refine wp_region_rel (Ext wr) Grows (relTab [(54, isB B2), (58, isB B2), (63, isIq q1 r1), (65, isB B1), (68, isIq q2 r2), (70, isB B1)]) (by kernel_rfl) (by kernel_rfl) (by kernel_rfl) (stable_cons (isB_up _) (stable_cons (isB_up _) (stable_cons (isIq_up _ _) (stable_cons (isB_up _) (stable_cons (isIq_up _ _) (stable_cons (isB_up _) (stable_nil _))))))) (Ext.start wr) ?_
          repeat (
            refine' walkR_plain (by kernel_rfl) rfl rfl (fun wx hC hL => ?_) ?_
            rotate_left
            · (have hls := Below.size hC
               have hllx := Nat.lt_of_lt_of_le lx hls
               have hlly := Nat.lt_of_lt_of_le ly hls
               simp only [X0 wx hC, X1 wx hC, hllx, Y0 wx hC, Y1 wx hC, hlly, go_sem]; first | done | (go_simp; exact ⟨rfl, rfl⟩))
            simp only [Act.put, List.setIfInBounds_toArray, List.set_cons_zero, List.set_cons_succ])
          refine walkR_rel (by kernel_rfl) rfl rfl (of_decide_eq_true (by kernel_rfl)) (fun wx hC hL => ?_) (fun v hv => ?_)
          · go_simp
            exact CH1.out wx hC
          obtain ⟨_, _, rfl⟩ := hv
          simp only [Act.put, List.setIfInBounds_toArray, List.set_cons_zero, List.set_cons_succ]
          repeat (
            refine' walkR_plain (by kernel_rfl) rfl rfl (fun wx hC hL => ?_) ?_
            rotate_left
            · (have hls := Below.size hC
               have hllx := Nat.lt_of_lt_of_le lx hls
               have hlly := Nat.lt_of_lt_of_le ly hls
               simp only [X0 wx hC, X1 wx hC, hllx, Y0 wx hC, Y1 wx hC, hlly, go_sem]; first | done | (go_simp; exact ⟨rfl, rfl⟩))
            simp only [Act.put, List.setIfInBounds_toArray, List.set_cons_zero, List.set_cons_succ])
          refine walkR_rel (by kernel_rfl) rfl rfl (of_decide_eq_true (by kernel_rfl)) (fun wx hC hL => ?_) (fun v hv => ?_)
          · go_simp
            exact CH2.out wx hC
          obtain ⟨_, _, rfl⟩ := hv
          simp only [Act.put, List.setIfInBounds_toArray, List.set_cons_zero, List.set_cons_succ]
          repeat (
            refine' walkR_plain (by kernel_rfl) rfl rfl (fun wx hC hL => ?_) ?_
            rotate_left
            · (have hls := Below.size hC
               have hllx := Nat.lt_of_lt_of_le lx hls
               have hlly := Nat.lt_of_lt_of_le ly hls
               simp only [X0 wx hC, X1 wx hC, hllx, Y0 wx hC, Y1 wx hC, hlly, go_sem]; first | done | (go_simp; exact ⟨rfl, rfl⟩))
            simp only [Act.put, List.setIfInBounds_toArray, List.set_cons_zero, List.set_cons_succ])
          refine walkR_rel (by kernel_rfl) rfl rfl (of_decide_eq_true (by kernel_rfl)) (fun wx hC hL => ?_) (fun v hv => ?_)
          · go_simp
            exact CE1.out wx hC
          obtain ⟨_, _, a63, c63, rfl, -⟩ := hv
          simp only [Act.put, List.setIfInBounds_toArray, List.set_cons_zero, List.set_cons_succ]
          repeat (
            refine' walkR_plain (by kernel_rfl) rfl rfl (fun wx hC hL => ?_) ?_
            rotate_left
            · (have hls := Below.size hC
               have hllx := Nat.lt_of_lt_of_le lx hls
               have hlly := Nat.lt_of_lt_of_le ly hls
               simp only [X0 wx hC, X1 wx hC, hllx, Y0 wx hC, Y1 wx hC, hlly, go_sem]; first | done | (go_simp; exact ⟨rfl, rfl⟩))
            simp only [Act.put, List.setIfInBounds_toArray, List.set_cons_zero, List.set_cons_succ])
          refine walkR_rel (by kernel_rfl) rfl rfl (of_decide_eq_true (by kernel_rfl)) (fun wx hC hL => ?_) (fun v hv => ?_)
          · have j63 := hidIt (isIq_use (xs := r1) (hL.get 63 (by simp [more]) (by kernel_rfl) rfl rfl))
            go_simp
            exact CN1.out wx a63 c63 hC j63.out
          obtain ⟨_, _, rfl⟩ := hv
          simp only [Act.put, List.setIfInBounds_toArray, List.set_cons_zero, List.set_cons_succ]
          repeat (
            refine' walkR_plain (by kernel_rfl) rfl rfl (fun wx hC hL => ?_) ?_
            rotate_left
            · (have hls := Below.size hC
               have hllx := Nat.lt_of_lt_of_le lx hls
               have hlly := Nat.lt_of_lt_of_le ly hls
               simp only [X0 wx hC, X1 wx hC, hllx, Y0 wx hC, Y1 wx hC, hlly, go_sem]; first | done | (go_simp; exact ⟨rfl, rfl⟩))
            simp only [Act.put, List.setIfInBounds_toArray, List.set_cons_zero, List.set_cons_succ])
          refine walkR_rel (by kernel_rfl) rfl rfl (of_decide_eq_true (by kernel_rfl)) (fun wx hC hL => ?_) (fun v hv => ?_)
          · go_simp
            exact CE2.out wx hC
          obtain ⟨_, _, a68, c68, rfl, -⟩ := hv
          simp only [Act.put, List.setIfInBounds_toArray, List.set_cons_zero, List.set_cons_succ]
          repeat (
            refine' walkR_plain (by kernel_rfl) rfl rfl (fun wx hC hL => ?_) ?_
            rotate_left
            · (have hls := Below.size hC
               have hllx := Nat.lt_of_lt_of_le lx hls
               have hlly := Nat.lt_of_lt_of_le ly hls
               simp only [X0 wx hC, X1 wx hC, hllx, Y0 wx hC, Y1 wx hC, hlly, go_sem]; first | done | (go_simp; exact ⟨rfl, rfl⟩))
            simp only [Act.put, List.setIfInBounds_toArray, List.set_cons_zero, List.set_cons_succ])
          refine walkR_rel (by kernel_rfl) rfl rfl (of_decide_eq_true (by kernel_rfl)) (fun wx hC hL => ?_) (fun v hv => ?_)
          · have j68 := hidIt (isIq_use (xs := r2) (hL.get 68 (by simp [more]) (by kernel_rfl) rfl rfl))
            go_simp
            exact CN2.out wx a68 c68 hC j68.out
          obtain ⟨_, _, rfl⟩ := hv
          simp only [Act.put, List.setIfInBounds_toArray, List.set_cons_zero, List.set_cons_succ]
          repeat (
            refine' walkR_plain (by kernel_rfl) rfl rfl (fun wx hC hL => ?_) ?_
            rotate_left
            · (have hls := Below.size hC
               have hllx := Nat.lt_of_lt_of_le lx hls
               have hlly := Nat.lt_of_lt_of_le ly hls
               simp only [X0 wx hC, X1 wx hC, hllx, Y0 wx hC, Y1 wx hC, hlly, go_sem]; first | done | (go_simp; exact ⟨rfl, rfl⟩))
            simp only [Act.put, List.setIfInBounds_toArray, List.set_cons_zero, List.set_cons_succ])
          refine fun w14 hC14 hK => ?_
          have hb14 : Below wr.heap.size wr w14 := hC14
          have HBN := hidIt (HB.out.trans (Below.mono hb14 HB.out.size))
          have HXN := hidIt (blk_kept2 HX.out hb14)
          clear hK hC14 hb14 X0 X1 Y0 Y1 x0 x1 lx y0 y1 ly CH1 CH2 CE1 CE2 CN1 CN2 RL1 RL2 HB HX HY HP HR HTr
          go_wp2_with fail
          go_roundw
          case rel => exact ⟨k + 1, by omega, by go_num, HBN.out⟩
          case measure => simp [intOf]; omega
        · obtain rfl : k = N := by omega
          have HBN := hidIt (HB9.out.trans (Below.mono HB.out HB9.out.size))
          go_wp2_with fail
          go_roundw
          case rel => exact ⟨i + 1, by omega, by go_num, HBN.out⟩
          case measure => simp [intOf]; omega
    · obtain rfl : i = N := by omega
      go_upto_region 16 with (fail)
      have CC1 : Hid (∀ wx, Ext wr wx → Calls Tryd.prog 28 #[.agg #[.int .i64 (i : Int), .slice ga ps.length gc]] wx fun e w'' => ∃ u, e = .returned u ∧ Ext wr w'' ∧ Grows wx w'' ∧ isLq (listsOf l1) u w'') := fun wx hC => by
        have h := gComponents_any (i : Int) _ ps l1 wx (HP.out.below hC) HPL.out (HTr.out.go hC) (by rw [vN_of HOK.out, vL_of HOK.out]; exact HC1.out)
        exact rel_call hC (h.mono fun e w'' ⟨v, h1, h2, h3⟩ => ⟨_, h1, h2, h3⟩)
      have CC2 : Hid (∀ wx, Ext wr wx → Calls Tryd.prog 28 #[.agg #[.int .i64 (i : Int), .slice ha R.length hc]] wx fun e w'' => ∃ u, e = .returned u ∧ Ext wr w'' ∧ Grows wx w'' ∧ isLq (listsOf l2) u w'') := fun wx hC => by
        have h := gComponents_any (i : Int) _ R l2 wx (HR.out.below hC) HRL.out (HTr.out.go hC) (by rw [vN_of HROK.out, vL_of HROK.out]; exact HC2.out)
        exact rel_call hC (h.mono fun e w'' ⟨v, h1, h2, h3⟩ => ⟨_, h1, h2, h3⟩)
      have HSH1 : Hid (∀ z ∈ listsOf l1, z.length ≤ 1000000) := lists_short
      have HSH2 : Hid (∀ z ∈ listsOf l2, z.length ≤ 1000000) := lists_short
      generalize listsOf l1 = za at *
      generalize listsOf l2 = zb at *
      have X0 : ∀ wx, Ext wr wx → wx.cell? ⟨G, 0, none⟩ = some (.int .i64 (i : Int)) := fun wx hC => (Below.cell (p := ⟨G, 0, none⟩) hC lx).trans x0
      have X1 : ∀ wx, Ext wr wx → wx.cell? ⟨G, 1, none⟩ = some (.slice ga ps.length gc) := fun wx hC => (Below.cell (p := ⟨G, 1, none⟩) hC lx).trans x1
      have Y0 : ∀ wx, Ext wr wx → wx.cell? ⟨Y, 0, none⟩ = some (.int .i64 (i : Int)) := fun wx hC => (Below.cell (p := ⟨Y, 0, none⟩) hC ly).trans y0
      have Y1 : ∀ wx, Ext wr wx → wx.cell? ⟨Y, 1, none⟩ = some (.slice ha R.length hc) := fun wx hC => (Below.cell (p := ⟨Y, 1, none⟩) hC ly).trans y1
      haveI := Ext.nonempty wr
      refine wp_region_rel (Ext wr) Grows (relTab [(74, isLq za), (76, isLq zb)]) (by kernel_rfl) (by kernel_rfl) (by kernel_rfl) (stable_cons (isLq_up _) (stable_cons (isLq_up _) (stable_nil _))) (Ext.start wr) ?_
      repeat (
        refine' walkR_plain (by kernel_rfl) rfl rfl (fun wx hC hL => ?_) ?_
        rotate_left
        · (have hls := Below.size hC
           have hllx := Nat.lt_of_lt_of_le lx hls
           have hlly := Nat.lt_of_lt_of_le ly hls
           simp only [X0 wx hC, X1 wx hC, hllx, Y0 wx hC, Y1 wx hC, hlly, go_sem]; first | done | (go_simp; exact ⟨rfl, rfl⟩))
        simp only [Act.put, List.setIfInBounds_toArray, List.set_cons_zero, List.set_cons_succ])
      refine walkR_rel (by kernel_rfl) rfl rfl (of_decide_eq_true (by kernel_rfl)) (fun wx hC hL => ?_) (fun v hv => ?_)
      · go_simp
        exact CC1.out wx hC
      obtain ⟨_, _, hv74⟩ := hv
      have hv74 : LL _ v za := hv74
      obtain ⟨a74, c74, rfl, -⟩ := hv74.form
      clear hv74
      simp only [Act.put, List.setIfInBounds_toArray, List.set_cons_zero, List.set_cons_succ]
      repeat (
        refine' walkR_plain (by kernel_rfl) rfl rfl (fun wx hC hL => ?_) ?_
        rotate_left
        · (have hls := Below.size hC
           have hllx := Nat.lt_of_lt_of_le lx hls
           have hlly := Nat.lt_of_lt_of_le ly hls
           simp only [X0 wx hC, X1 wx hC, hllx, Y0 wx hC, Y1 wx hC, hlly, go_sem]; first | done | (go_simp; exact ⟨rfl, rfl⟩))
        simp only [Act.put, List.setIfInBounds_toArray, List.set_cons_zero, List.set_cons_succ])
      refine walkR_rel (by kernel_rfl) rfl rfl (of_decide_eq_true (by kernel_rfl)) (fun wx hC hL => ?_) (fun v hv => ?_)
      · go_simp
        exact CC2.out wx hC
      obtain ⟨_, _, hv76⟩ := hv
      have hv76 : LL _ v zb := hv76
      obtain ⟨a76, c76, rfl, -⟩ := hv76.form
      clear hv76
      simp only [Act.put, List.setIfInBounds_toArray, List.set_cons_zero, List.set_cons_succ]
      repeat (
        refine' walkR_plain (by kernel_rfl) rfl rfl (fun wx hC hL => ?_) ?_
        rotate_left
        · (have hls := Below.size hC
           have hllx := Nat.lt_of_lt_of_le lx hls
           have hlly := Nat.lt_of_lt_of_le ly hls
           simp only [X0 wx hC, X1 wx hC, hllx, Y0 wx hC, Y1 wx hC, hlly, go_sem]; first | done | (go_simp; exact ⟨rfl, rfl⟩))
        simp only [Act.put, List.setIfInBounds_toArray, List.set_cons_zero, List.set_cons_succ])
      refine fun w16 hC16 hK => ?_
      have hb16 : Below wr.heap.size wr w16 := hC16
      have k74 : LL w16 (.slice a74 za.length c74) za := hK 74 (by simp [more]) _ rfl
      have k76 : LL w16 (.slice a76 zb.length c76) zb := hK 76 (by simp [more]) _ rfl
      have HA := hidIt k74
      have HZB := hidIt k76
      have HT16 := hidIt (HTr.out.go hb16)
      have HB16 := hidIt ((HB6.out.trans (Below.mono HB.out HB6.out.size)).trans (Below.mono hb16 (Nat.le_trans HB6.out.size HB.out.size)))
      clear hK hC16 hb16 X0 X1 Y0 Y1 x0 x1 lx y0 y1 ly CC1 CC2 HP HR HX HY HTr HB HP6 HR6 HX6 HY6 HT6 HB6 HC1 HC2 k74 k76
      have hlenI : (za.length : Int) = (zb.length : Int) := by have := HLS.out; omega
      have hL0 : Hid (za.length = zb.length) := HLS
      clear HLS
      have hzm : zb.length ≤ 9223372036854775807 := by
        rcases HZB.out with ⟨-, h⟩ | ⟨_, _, cap, -, h1, h2, -⟩
        · rw [h]; exact Nat.zero_le _
        · unfold maxLen at h2; omega
      go_upto_region 20 with (fail)
      clear hlenI
      go_loopw [11, 12, 14, 84, 90] (fun _ _ _ va _ wr => ∃ a : Nat, a ≤ zb.length ∧ va = .int .i64 (a : Int) ∧ Hid (Below w16.heap.size w16 wr)) (fun _ _ _ va _ _ => zb.length - (intOf va).toNat)
      case atStart => exact ⟨0, Nat.zero_le _, (by first | rfl | trivial), Below.refl _ _⟩
      case round =>
        obtain ⟨a, hal, rfl, HB⟩ := hrel
        have ha0 : (0 : Int) ≤ (a : Int) := by omega
        by_cases hlt : a < zb.length
        · have haI : (a : Int) < (zb.length : Int) := by omega
          have hap : a < za.length := by have := hL0.out; omega
          have hAr := HA.out.below HB.out
          obtain ⟨ad, cd, hle, hcell⟩ := hAr.form
          injection hle with e1 e2 e3
          subst e1
          obtain ⟨gb, go, u, hgu, lu, cu, iu⟩ := hcell a hap
          subst hgu
          obtain ⟨ua, uc, rfl, -⟩ := iu.form
          have HU := hidIt iu
          have HUM := hidIt (HIN.out za[a] (List.getElem_mem hap))
          have HUL := hidIt (HSH1.out za[a] (List.getElem_mem hap))
          clear iu hcell hAr e2 e3
          generalize za[a] = z at *
          go_upto_region 24 with (fail)
          clear cu lu
          generalize wr = wq at *
          go_loopw [12, 14, 90] (fun v12 _ vb wr => ∃ (x : Bool) (b : Nat), v12 = .bool x ∧ b ≤ zb.length ∧ vb = .int .i64 (b : Int) ∧ Hid (∀ b' : Nat, b' < b → zb[b']? = some z → x = true) ∧ Hid (Below wq.heap.size wq wr)) (fun _ _ vb _ => zb.length - (intOf vb).toNat)
          case atStart => exact ⟨false, 0, (by first | rfl | trivial), Nat.zero_le _, (by first | rfl | trivial), fun b' h2 => by omega, Below.refl _ _⟩
          case round =>
            obtain ⟨x, b, rfl, hbl, rfl, hfound, HBx⟩ := hrel
            have hb0 : (0 : Int) ≤ (b : Int) := by omega
            by_cases hbt : b < zb.length
            · have hbI : (b : Int) < (zb.length : Int) := by omega
              have hZr := HZB.out.below (HB.out.trans (Below.mono HBx.out HB.out.size))
              obtain ⟨zd, ze, hle, hcell⟩ := hZr.form
              injection hle with e1 e2 e3
              subst e1
              obtain ⟨qb, qo, qu, hqu, lq, cq, iq⟩ := hcell b hbt
              subst hqu
              obtain ⟨ta, tc, rfl, -⟩ := iq.form
              have HI := hidIt iq
              have HIL := hidIt (HSH2.out zb[b] (List.getElem_mem hbt))
              have HUx := hidIt (HU.out.below HBx.out)
              have hgz : zb[b]? = some zb[b] := List.getElem?_eq_getElem hbt
              have HGZ := hidIt hgz
              clear iq hcell hZr e2 e3 hgz
              generalize zb[b] = y at *
              cases x
              · go_upto_region 26 with (fail)
                clear cq lq
                go_wp2_with fail
                refine (kInts_any _ _ z y wr HUx.out HI.out HUL.out HIL.out).mono ?_
                rintro e w26 ⟨rfl, hb26⟩
                have HBn := hidIt (HBx.out.trans (Below.mono hb26 HBx.out.size))
                clear hb26
                have HFn : Hid (∀ b' : Nat, b' < b + 1 → zb[b']? = some z → decide (z = y) = true) := fun b' h1 h2 => by
                  rcases Nat.lt_or_ge b' b with h3 | h3
                  · have := hfound.out b' h3 h2
                    cases this
                  · obtain rfl : b' = b := by omega
                    have := HGZ.out
                    rw [h2] at this
                    exact decide_eq_true (Option.some.inj this)
                clear hfound
                generalize decide (z = y) = xn at *
                go_wp2_with fail
                go_roundw
                case rel => exact ⟨xn, b + 1, by first | rfl | trivial, by omega, by go_num, HFn, HBn.out⟩
                case measure => simp [intOf]; omega
              · clear hfound
                go_wp2_with fail
                go_roundw
                case rel => exact ⟨true, b + 1, by first | rfl | trivial, by omega, by go_num, fun _ _ _ => rfl, HBx.out⟩
                case measure => simp [intOf]; omega
            · obtain rfl : b = zb.length := by omega
              have hx : x = true := by
                obtain ⟨b', hb', he⟩ := List.getElem_of_mem HUM.out
                exact hfound.out b' hb' (by rw [List.getElem?_eq_getElem hb', he])
              subst hx
              clear hfound
              have HBN := hidIt (HB.out.trans (Below.mono HBx.out HB.out.size))
              go_wp2_with fail
              go_roundw
              case rel => exact ⟨a + 1, by omega, by go_num, HBN.out⟩
              case measure => simp [intOf]; omega
        · obtain rfl : a = zb.length := by omega
          have HTE := hidIt (HT16.out.go HB.out)
          have HBE := hidIt (HB16.out.trans (Below.mono HB.out HB16.out.size))
          go_wp2_with fail
          refine (awake10 _ HTE.out).mono ?_
          rintro e w30 ⟨rfl, hb⟩
          have HBF := hidIt (HBE.out.trans (Below.mono hb HBE.out.size))
          clear hb
          go_wp2_with fail
          go_ret
          exact ⟨rfl, HBF.out⟩
end Go.Proofs.YtjdnfphbddnhkaaDoor
