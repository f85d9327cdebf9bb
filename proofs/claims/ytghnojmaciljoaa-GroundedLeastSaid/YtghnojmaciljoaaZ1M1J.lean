/- The law GroundedLeast: for every list of numbers it answers true. -/
import Derived.Test.YtghnojmaciljoaaZ1C
import Derived.Test.YtghnojmaciljoaaL1U
import Derived.Test.YtghnojmaciljoaaL1M

namespace Go.Proofs.Ytghnojmaciljoaa
set_option linter.unusedVariables false
set_option linter.unusedSimpArgs false
open Go Go.RowKit Go.Sort

theorem less_of {N : Nat} {ps : List (Int × Int)} (hix : ∀ p ∈ ps, (0 ≤ p.1 ∧ p.1 < (N : Int)) ∧ (0 ≤ p.2 ∧ p.2 < (N : Int))) {lab rk y : List Int} (h : GSpec N ps lab rk) (hy : CmpG N ps y) : lessF lab y = true := by
  rw [lessF_iff]
  refine ⟨by rw [h.ll, hy.len], fun i h1 h2 hx => ?_⟩
  have := h.least2 hix hy (i := i) (by rw [← h.ll]; exact h1) (by rw [getD_at h1]; exact hx)
  rw [getD_at h1, getD_at h2] at this
  exact this.symm

set_option maxRecDepth 100000 in
set_option maxHeartbeats 4000000 in
theorem least_walk (lv : Value) (zs : List Int) (w : World) (hz : IntsAt w w.heap.size lv zs) :
    Calls Try.prog 5 #[lv] w fun e w' => e = .returned (.bool true) ∧ Below w.heap.size w w' := by
  have HZ := hidIt hz
  clear hz
  go_enter Try.func5, Try.ntmps5
  go_wp2_with fail
  refine (new_any lv zs w.heap.size w HZ.out (Nat.le_refl _)).mono ?_
  rintro e w1 ⟨zs', rfl, hs1, o1, rfl⟩
  have HS1 := hidIt hs1
  have HB1 := hidIt (bgrow w o1)
  have hsz1 : w.heap.size < (w.alloc o1).heap.size := hs1.lt
  clear hs1
  generalize w.alloc o1 = w1 at *
  go_wp2_with fail
  refine (kGraph_any 6 (by decide) _ _ _ _ w1 HS1.out).mono ?_
  rintro e w2 ⟨N, ps, ga, gc, k2, rfl, hN, hok, hpl, hop, hs2, hg2⟩
  have HOK := hidIt hok
  have HPS := hidIt hpl
  have hgr := bgrow w2 (.cells #[.int .i64 (N : Int), .slice ga ps.length gc] 27)
  have HO3 := hidIt (hop.below hgr).lits
  have HX3 := hidIt (heap_alloc_new w2 (.cells #[.int .i64 (N : Int), .slice ga ps.length gc] 27))
  have HB2 := hidIt (below_read HB1.out hg2 (Nat.le_of_lt hsz1))
  have HB3 := hidIt (HB2.out.trans (Below.mono hgr HB2.out.size))
  clear hok hpl hop hs2 hg2 hgr HB2 HS1 HB1
  go_upto_region 3 with (fail)
  generalize (w2.alloc (.cells #[.int .i64 (N : Int), .slice ga ps.length gc] 27)) = w3 at *
  generalize w2.heap.size = G at *
  obtain ⟨x0, x1⟩ := And.intro (cell_two0 HX3.out) (cell_two1 HX3.out)
  have lx := lt_of_block HX3.out
  go_wp2_with fail
  refine (uLabel_any N ga gc ps w3 HO3.out HOK.out (by have := HPS.out; omega)).mono ?_
  rintro e w4 ⟨L, lab, rk, rfl, hl, hsp, hb4⟩
  have HSP := hidIt hsp
  have hll := hsp.ll
  have HL4 : Hid (IL w4 (.slice (some ⟨L, 0, none⟩) N N) lab) := by
    have h := hl.il (c := N) (by omega) (by unfold maxLen; omega)
    rw [hll] at h
    exact h
  have HO4 := hidIt (HO3.out.below hb4)
  have HX4 := hidIt (blk_kept2 HX3.out hb4)
  have HB4 := hidIt (HB3.out.trans (Below.mono hb4 HB3.out.size))
  have HLL := hidIt hll
  clear hl hsp hll hb4 HO3 HX3 HB3 x0 x1 lx
  obtain ⟨x0, x1⟩ := And.intro (cell_two0 HX4.out) (cell_two1 HX4.out)
  have lx := lt_of_block HX4.out
  have HCC := hidIt (comp_iff HOK.out.ix |>.2 HSP.out.complete)
  go_wp2_with fail
  refine (lIsComplete_any N _ _ ps lab w4 HO4.out HOK.out HPS.out HL4.out (by have := HLL.out; omega)).mono ?_
  rw [show (validB N lab && decide ((illL N ps lab).length = 0)) = true from HCC.out]
  rintro e w5 ⟨rfl, hb5⟩
  have HL5 := hidIt (HL4.out.below hb5)
  have HO5 := hidIt (HO4.out.below hb5)
  have HX5 := hidIt (blk_kept2 HX4.out hb5)
  have HB5 := hidIt (HB4.out.trans (Below.mono hb5 HB4.out.size))
  clear hb5 HO4 HX4 HB4 HL4 x0 x1 lx
  obtain ⟨x0, x1⟩ := And.intro (cell_two0 HX5.out) (cell_two1 HX5.out)
  have lx := lt_of_block HX5.out
  go_wp2_with fail
  refine (rlLabellings_any N (by omega) w5).mono ?_
  rintro e w6 ⟨zss, la, lc, rfl, hll, hsh, hzl, hb6⟩
  have HSH := hidIt hsh
  have HL6 := hidIt (HL5.out.below hb6)
  have HO6 := hidIt (HO5.out.below hb6)
  have HX6 := hidIt (blk_kept2 HX5.out hb6)
  have HB6 := hidIt (HB5.out.trans (Below.mono hb6 HB5.out.size))
  obtain ⟨la', lc', hle, hcs⟩ := hll.form
  injection hle with hle1 hle2 hle3
  subst hle1 hle3
  have HLC := hidIt hcs
  obtain ⟨M, hM⟩ : ∃ M, M = zss.length := ⟨_, rfl⟩
  have HM := hidIt hM
  have hM729 : M ≤ 729 := by omega
  rw [← hM]
  clear hsh hll hb6 hzl hle2 hcs hM HO5 HX5 HB5 HL5 x0 x1 lx
  go_wp2_with fail
  go_loopw [7, 22] (fun _ i wr => ∃ k : Nat, k ≤ M ∧ i = .int .i64 k ∧ Hid (Below w6.heap.size w6 wr)) (fun _ i _ => M - (intOf i).toNat)
  case atStart => exact ⟨0, Nat.zero_le _, (by first | rfl | trivial), Below.refl _ _⟩
  case round =>
    obtain ⟨k, hk, rfl, HB⟩ := hrel
    have hk0 : (0 : Int) ≤ (k : Int) := by omega
    by_cases hlt : k < M
    · have hkI : (k : Int) < (M : Int) := by omega
      have hkz : k < zss.length := by have := HM.out; omega
      obtain ⟨bo, oo, u, rfl, lo, cu, iu⟩ := HLC.out k hkz
      have cu2 := (Below.cell (p := ⟨bo, oo + k, none⟩) HB.out lo).trans cu
      have lo2 := Nat.lt_of_lt_of_le lo HB.out.size
      have HIX := hidIt (iu.below HB.out)
      have HXN : Hid (zss[k].length ≤ 1000) := by show _ ≤ _; have := HSH.out k hkz; omega
      generalize zss[k] = y at *
      obtain ⟨xa, xc, rfl, -⟩ := HIX.out.form
      clear cu iu lo hkz
      have HXr := hidIt (blk_kept2 HX6.out HB.out)
      have HOr := hidIt (HO6.out.below HB.out)
      have HLr := hidIt (HL6.out.below HB.out)
      obtain ⟨x0, x1⟩ := And.intro (cell_two0 HXr.out) (cell_two1 HXr.out)
      have lx := lt_of_block HXr.out
      have HC := hidIt (rlIsComplete_any N _ _ ps y wr HOr.out HOK.out HPS.out HIX.out HXN.out)
      change Hid (Calls _ _ _ _ fun e w' => e = .returned (.bool (compB N ps y)) ∧ _) at HC
      cases hcp : compB N ps y
      · rw [hcp] at HC
        clear hcp
        go_wp2_with fail
        refine HC.out.mono ?_
        rintro e w7 ⟨rfl, hb7⟩
        have HB7 := hidIt (HB.out.trans (Below.mono hb7 HB.out.size))
        clear hb7
        go_wp2_with fail
        go_roundw
        case rel => exact ⟨k + 1, by omega, by go_num, HB7.out⟩
        case measure => simp [intOf]; omega
      · rw [hcp] at HC
        have HLF := hidIt (less_of HOK.out.ix HSP.out ((comp_iff HOK.out.ix).1 hcp))
        clear hcp
        go_wp2_with fail
        refine HC.out.mono ?_
        rintro e w7 ⟨rfl, hb7⟩
        have HB7 := hidIt (HB.out.trans (Below.mono hb7 HB.out.size))
        have HL7 := hidIt (HLr.out.below hb7)
        have HI7 := hidIt (HIX.out.below hb7)
        clear hb7 HC x0 x1 lx HXr HOr HLr HIX cu2 lo2 HB
        go_wp2_with fail
        refine (lLess_any _ _ lab y w7 HL7.out HI7.out (by have := HLL.out; omega) (by have := HXN.out; omega)).mono ?_
        rw [HLF.out]
        rintro e w8 ⟨rfl, hb8⟩
        have HB8 := hidIt (HB7.out.trans (Below.mono hb8 HB7.out.size))
        clear hb8
        go_wp2_with fail
        go_roundw
        case rel => exact ⟨k + 1, by omega, by go_num, HB8.out⟩
        case measure => simp [intOf]; omega
    · obtain rfl : k = M := by omega
      have hkI : ¬ (k : Int) < (k : Int) := by omega
      go_wp2_with fail
      refine (awake12_any _).mono ?_
      rintro e w30 ⟨rfl, hb⟩
      have HBF := hidIt ((HB6.out.trans (Below.mono HB.out HB6.out.size)).trans (Below.mono hb (Nat.le_trans HB6.out.size HB.out.size)))
      clear hb
      go_wp2_with fail
      go_ret
      exact ⟨rfl, HBF.out⟩
end Go.Proofs.Ytghnojmaciljoaa
