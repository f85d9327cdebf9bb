/- The law AdmissibleLeast: for every list of numbers it answers true. -/
import Derived.Test.YtihmdnbeonefcaaDoorN1P
namespace Go.Proofs.YtihmdnbeonefcaaDoor
set_option linter.unusedVariables false
set_option linter.unusedSimpArgs false
open Go Go.RowKit Go.Sort

set_option maxRecDepth 100000 in
set_option maxHeartbeats 4000000 in
theorem least13_walk (lv : Value) (zs : List Int) (w : World) (hz : IntsAt w w.heap.size lv zs) (hT : Tab w) :
    Calls Tryd.prog 8 #[lv] w fun e w' => e = .returned (.bool true) ∧ Below w.heap.size w w' := by
  have HT := hidIt hT
  have HZ := hidIt hz
  clear hz hT
  go_enter Tryd.func8, Tryd.ntmps8
  go_wp2_with fail
  refine (new_any lv zs w.heap.size w HZ.out (Nat.le_refl _)).mono ?_
  rintro e w1 ⟨zs', rfl, hs1, o1, rfl⟩
  have HS1 := hidIt hs1
  have HB1 := hidIt (bgrow w o1)
  have hsz1 : w.heap.size < (w.alloc o1).heap.size := hs1.lt
  clear hs1
  generalize w.alloc o1 = w1 at *
  go_wp2_with fail
  refine (kGraph_any 6 (by decide) _ _ _ _ w1 HS1.out).mono ?_
  rintro e w2 ⟨N, ps, ga, gc, k2, rfl, hN, hok, hpl, hop, hs2, hg2⟩
  have HOK := hidIt hok
  have HPS := hidIt hpl
  have hgr := bgrow w2 (.cells #[.int .i64 (N : Int), .slice ga ps.length gc] 27)
  have HB2 := hidIt (below_read13 HB1.out hg2 (Nat.le_of_lt hsz1))
  have HW3 : Hid (LW w w2.heap.size N ga gc ps (w2.alloc (.cells #[.int .i64 (N : Int), .slice ga ps.length gc] 27))) :=
    ⟨heap_alloc_new w2 _, (hop.below hgr).lits, (HT.out.go HB2.out).go hgr, HB2.out.trans (Below.mono hgr HB2.out.size)⟩
  clear hok hpl hop hs2 hg2 hgr HB2 HS1 HB1
  go_upto_region 3 with (fail)
  generalize (w2.alloc (.cells #[.int .i64 (N : Int), .slice ga ps.length gc] 27)) = w3 at *
  generalize w2.heap.size = G at *
  have x0 := HW3.out.c0
  have x1 := HW3.out.c1
  have lx := HW3.out.l
  go_wp2_with fail
  refine (rlSets_any N (by omega) w3).mono ?_
  rintro e w4 ⟨la, lc, rfl, hll, hb4⟩
  have HW4 := hidIt (HW3.out.go hb4)
  obtain ⟨la', lc', hle, hcs⟩ := hll.form
  injection hle with hle1 hle2 hle3
  subst hle1 hle3
  have HLC := hidIt hcs
  have HSL := hidIt (setsL_len N)
  have HST : Hid (∀ i (h : i < (setsL N).length), setB N (setsL N)[i] = true) := fun i h => setsL_set h
  obtain ⟨M, hM⟩ : ∃ M, M = 2 ^ N := ⟨_, rfl⟩
  rw [← hM] at HSL ⊢
  have HM := hidIt hM
  have hM128 : M ≤ 1024 := by rw [hM]; exact Nat.pow_le_pow_right (by decide) (by omega : N ≤ 10)
  clear hll hb4 hle2 hcs hM HW3
  clear x0 x1 lx
  go_wp2_with fail
  go_loopw [7, 8, 9, 10, 11, 13, 23, 85] (fun _ _ _ _ _ _ i _ wr => ∃ k : Nat, k ≤ M ∧ i = .int .i64 k ∧ Hid (Below w4.heap.size w4 wr)) (fun _ _ _ _ _ _ i _ _ => M - (intOf i).toNat)
  case atStart => exact ⟨0, Nat.zero_le _, (by first | rfl | trivial), Below.refl _ _⟩
  case round =>
    obtain ⟨k, hk, rfl, HB⟩ := hrel
    have hk0 : (0 : Int) ≤ (k : Int) := by omega
    have HWr := hidIt (HW4.out.go HB.out)
    by_cases hlt : k < M
    · have hkI : (k : Int) < (M : Int) := by omega
      have hkz : k < (setsL N).length := by have := HSL.out; omega
      obtain ⟨bo, oo, u, rfl, lo, cu, iu⟩ := HLC.out k hkz
      have cu2 := (Below.cell (p := ⟨bo, oo + k, none⟩) HB.out lo).trans cu
      have lo2 := Nat.lt_of_lt_of_le lo HB.out.size
      have HI4 := hidIt iu
      have HSX := hidIt (HST.out k hkz)
      generalize (setsL N)[k] = x at *
      obtain ⟨xa, xc, rfl, -⟩ := HI4.out.form
      have HXL : Hid (x.length ≤ 10) := Nat.le_trans (setB_len HSX.out) (by omega)
      clear cu iu lo hkz
      have HLN : Hid (∀ y : List Int, setB N y = true → y.length ≤ 10) := fun y h => Nat.le_trans (setB_len h) (by omega)
      have x0 := HWr.out.c0
      have x1 := HWr.out.c1
      have lx := HWr.out.l
      go_wp2_with fail
      refine (qGrow_any N _ _ ps x wr HWr.out.p HOK.out (by have := HPS.out; omega) (HI4.out.below HB.out) (by have := HXL.out; omega) HWr.out.t).mono ?_
      rintro e w5 ⟨av, al, rfl, hgs, hao, hb5⟩
      have HGS := hidIt hgs
      have HAL := hidIt (HLN.out al hgs.set)
      have HAI := hidIt hao.il
      have HB5 := hidIt (HB.out.trans (Below.mono hb5 HB.out.size))
      have HW5 := hidIt (HW4.out.go HB5.out)
      clear hgs hao hb5 HB HWr cu2 lo2 x0 x1 lx
      have x0 := HW5.out.c0
      have x1 := HW5.out.c1
      have lx := HW5.out.l
      obtain ⟨aa, ac, rfl, -⟩ := HAI.out.form
      go_wp2_with fail
      refine (qShrink_any N _ _ ps x w5 HW5.out.p HOK.out (by have := HPS.out; omega) (HI4.out.below HB5.out) (by have := HXL.out; omega) HW5.out.t).mono ?_
      rintro e w6 ⟨bv', bl, rfl, hss, hbo, hb6⟩
      have HSS := hidIt hss
      have HBL := hidIt (HLN.out bl hss.set)
      have HBI := hidIt hbo.il
      have HAI6 := hidIt (HAI.out.below hb6)
      have HB6 := hidIt (HB5.out.trans (Below.mono hb6 HB5.out.size))
      have HW6 := hidIt (HW4.out.go HB6.out)
      have HI6 := hidIt (HI4.out.below HB6.out)
      clear hss hbo hb6 HB5 HW5 x0 x1 lx HAI
      obtain ⟨ba, bc, rfl, -⟩ := HBI.out.form
      have HGZ := hidIt (growE_zero (ps := ps) HSX.out)
      have HSZ := hidIt (shrinkE_zero (ps := ps) HSX.out)
      have HGO := hidIt (grow_ok HOK.out.ix HSX.out HGS.out)
      have HSO := hidIt (shrink_ok HOK.out.ix HSX.out HSS.out)
      generalize growE N ps x = ge at *
      generalize shrinkE N ps x = se at *
      have HBr : Hid (Below w6.heap.size w6 w6) := Below.refl _ _
      cases hge : (ge == 0)
      · cases hse : (se == 0)
        · skip
          rw [hge] at HGZ
          rw [hse] at HSZ
          have x0 := (HW6.out.go HBr.out).c0
          have x1 := (HW6.out.go HBr.out).c1
          have lx := (HW6.out.go HBr.out).l
          go_wp2_with fail
          refine (raAdmissible_any N _ _ ps x _ (HW6.out.go HBr.out).p HOK.out HPS.out (HI6.out.below HBr.out) (by have := HXL.out; omega)).mono ?_
          rw [← HGZ.out]
          rintro e wd ⟨rfl, hbd⟩
          have HBr := hidIt (HBr.out.trans (Below.mono hbd HBr.out.size))
          clear hbd x0 x1 lx
          have x0 := (HW6.out.go HBr.out).c0
          have x1 := (HW6.out.go HBr.out).c1
          have lx := (HW6.out.go HBr.out).l
          go_wp2_with fail
          refine (raConflictFree_any N _ _ ps x _ (HW6.out.go HBr.out).p HOK.out (by have := HPS.out; omega) (HI6.out.below HBr.out) (by have := HXL.out; omega)).mono ?_
          rw [← HSZ.out]
          rintro e wd ⟨rfl, hbd⟩
          have HBr := hidIt (HBr.out.trans (Below.mono hbd HBr.out.size))
          clear hbd x0 x1 lx
          go_wp2_with fail
          go_loopw [13, 85] (fun _ i wr => ∃ q : Nat, q ≤ M ∧ i = .int .i64 q ∧ Hid (Below w6.heap.size w6 wr)) (fun _ i _ => M - (intOf i).toNat)
          case atStart => exact ⟨0, Nat.zero_le _, (by first | rfl | trivial), HBr.out⟩
          case round =>
            clear HBr
            obtain ⟨q, hq, rfl, HBr⟩ := hrel
            have hq0 : (0 : Int) ≤ (q : Int) := by omega
            by_cases hqt : q < M
            · have hqI : (q : Int) < (M : Int) := by omega
              have hqz : q < (setsL N).length := by have := HSL.out; omega
              obtain ⟨bo2, oo2, u, hae, lo, cu, iu⟩ := HLC.out q hqz
              injection hae with hae
              injection hae with hae1 hae2
              subst hae1 hae2
              have HB4 := hidIt (HB6.out.trans (Below.mono HBr.out HB6.out.size))
              have cu2 := (Below.cell (p := ⟨bo, oo + q, none⟩) HB4.out lo).trans cu
              have lo2 := Nat.lt_of_lt_of_le lo HB4.out.size
              have HY6 := hidIt (iu.below HB6.out)
              have HSY := hidIt (HST.out q hqz)
              generalize (setsL N)[q] = y at *
              obtain ⟨ya, yc, rfl, -⟩ := HY6.out.form
              have HYL := hidIt (HLN.out y HSY.out)
              clear cu iu lo hqz HB4
              go_wp2_with fail
              go_roundw
              case rel => exact ⟨q + 1, by omega, by go_num, HBr.out⟩
              case measure => simp [intOf]; omega
            · obtain rfl : q = M := by omega
              have hqI : ¬ (q : Int) < (q : Int) := by omega
              have HBk := hidIt (HB6.out.trans (Below.mono HBr.out HB6.out.size))
              go_wp2_with fail
              go_roundw
              case rel => exact ⟨k + 1, by omega, by go_num, HBk.out⟩
              case measure => simp [intOf]; omega
        · skip
          rw [hge] at HGZ
          rw [hse] at HSZ
          have hse0 : se = 0 := beq_iff_eq.1 hse
          obtain ⟨HS1, HS2, HS3⟩ := HSO.out hse0
          have HS1 := hidIt HS1
          have HS2 := hidIt HS2
          have HS3 := hidIt HS3
          clear hse0
          have x0 := (HW6.out.go HBr.out).c0
          have x1 := (HW6.out.go HBr.out).c1
          have lx := (HW6.out.go HBr.out).l
          go_wp2_with fail
          refine (raAdmissible_any N _ _ ps x _ (HW6.out.go HBr.out).p HOK.out HPS.out (HI6.out.below HBr.out) (by have := HXL.out; omega)).mono ?_
          rw [← HGZ.out]
          rintro e wd ⟨rfl, hbd⟩
          have HBr := hidIt (HBr.out.trans (Below.mono hbd HBr.out.size))
          clear hbd x0 x1 lx
          have x0 := (HW6.out.go HBr.out).c0
          have x1 := (HW6.out.go HBr.out).c1
          have lx := (HW6.out.go HBr.out).l
          go_wp2_with fail
          refine (raConflictFree_any N _ _ ps x _ (HW6.out.go HBr.out).p HOK.out (by have := HPS.out; omega) (HI6.out.below HBr.out) (by have := HXL.out; omega)).mono ?_
          rw [← HSZ.out]
          rintro e wd ⟨rfl, hbd⟩
          have HBr := hidIt (HBr.out.trans (Below.mono hbd HBr.out.size))
          clear hbd x0 x1 lx
          have x0 := (HW6.out.go HBr.out).c0
          have x1 := (HW6.out.go HBr.out).c1
          have lx := (HW6.out.go HBr.out).l
          go_wp2_with fail
          refine (raAdmissible_any N _ _ ps bl _ (HW6.out.go HBr.out).p HOK.out HPS.out (HBI.out.below HBr.out) (by have := HBL.out; omega)).mono ?_
          rw [HS1.out]
          rintro e wd ⟨rfl, hbd⟩
          have HBr := hidIt (HBr.out.trans (Below.mono hbd HBr.out.size))
          clear hbd x0 x1 lx
          go_wp2_with fail
          refine (kInside_any _ _ bl x _ (HBI.out.below HBr.out) (HI6.out.below HBr.out) (by have := HBL.out; omega) (by have := HXL.out; omega)).mono ?_
          rw [HS2.out]
          rintro e wr ⟨rfl, rfl⟩
          go_wp2_with fail
          go_loopw [13, 85] (fun _ i wr => ∃ q : Nat, q ≤ M ∧ i = .int .i64 q ∧ Hid (Below w6.heap.size w6 wr)) (fun _ i _ => M - (intOf i).toNat)
          case atStart => exact ⟨0, Nat.zero_le _, (by first | rfl | trivial), HBr.out⟩
          case round =>
            clear HBr
            obtain ⟨q, hq, rfl, HBr⟩ := hrel
            have hq0 : (0 : Int) ≤ (q : Int) := by omega
            by_cases hqt : q < M
            · have hqI : (q : Int) < (M : Int) := by omega
              have hqz : q < (setsL N).length := by have := HSL.out; omega
              obtain ⟨bo2, oo2, u, hae, lo, cu, iu⟩ := HLC.out q hqz
              injection hae with hae
              injection hae with hae1 hae2
              subst hae1 hae2
              have HB4 := hidIt (HB6.out.trans (Below.mono HBr.out HB6.out.size))
              have cu2 := (Below.cell (p := ⟨bo, oo + q, none⟩) HB4.out lo).trans cu
              have lo2 := Nat.lt_of_lt_of_le lo HB4.out.size
              have HY6 := hidIt (iu.below HB6.out)
              have HSY := hidIt (HST.out q hqz)
              generalize (setsL N)[q] = y at *
              obtain ⟨ya, yc, rfl, -⟩ := HY6.out.form
              have HYL := hidIt (HLN.out y HSY.out)
              clear cu iu lo hqz HB4
              have HS4 := hidIt (HS3.out y HSY.out)
              clear HS3
              cases hd1 : subL y x
              focus
                go_wp2_with fail
                refine (kInside_any _ _ y x _ (HY6.out.below HBr.out) (HI6.out.below HBr.out) (by have := HYL.out; omega) (by have := HXL.out; omega)).mono ?_
                rw [hd1]
                rintro e wr ⟨rfl, rfl⟩
                clear hd1 HS4
              rotate_left
              focus
                go_wp2_with fail
                refine (kInside_any _ _ y x _ (HY6.out.below HBr.out) (HI6.out.below HBr.out) (by have := HYL.out; omega) (by have := HXL.out; omega)).mono ?_
                rw [hd1]
                rintro e wr ⟨rfl, rfl⟩
                have HS5 := hidIt (HS4.out hd1)
                clear hd1 HS4
                cases hd2 : (setB N y && admX N ps (memB y))
                focus
                  have x0 := (HW6.out.go HBr.out).c0
                  have x1 := (HW6.out.go HBr.out).c1
                  have lx := (HW6.out.go HBr.out).l
                  go_wp2_with fail
                  refine (raAdmissible_any N _ _ ps y _ (HW6.out.go HBr.out).p HOK.out HPS.out (HY6.out.below HBr.out) (by have := HYL.out; omega)).mono ?_
                  rw [hd2]
                  rintro e wd ⟨rfl, hbd⟩
                  have HBr := hidIt (HBr.out.trans (Below.mono hbd HBr.out.size))
                  clear hbd x0 x1 lx
                  clear hd2 HS5
                rotate_left
                focus
                  have HS6 := hidIt (HS5.out hd2)
                  have x0 := (HW6.out.go HBr.out).c0
                  have x1 := (HW6.out.go HBr.out).c1
                  have lx := (HW6.out.go HBr.out).l
                  go_wp2_with fail
                  refine (raAdmissible_any N _ _ ps y _ (HW6.out.go HBr.out).p HOK.out HPS.out (HY6.out.below HBr.out) (by have := HYL.out; omega)).mono ?_
                  rw [hd2]
                  rintro e wd ⟨rfl, hbd⟩
                  have HBr := hidIt (HBr.out.trans (Below.mono hbd HBr.out.size))
                  clear hbd x0 x1 lx
                  clear hd2 HS5
                  go_wp2_with fail
                  refine (kInside_any _ _ y bl _ (HY6.out.below HBr.out) (HBI.out.below HBr.out) (by have := HYL.out; omega) (by have := HBL.out; omega)).mono ?_
                  rw [HS6.out]
                  rintro e wr ⟨rfl, rfl⟩
                  clear HS6
              all_goals (
                go_wp2_with fail
                go_roundw
                case rel => exact ⟨q + 1, by omega, by go_num, HBr.out⟩
                case measure => simp [intOf]; omega
              )
            · obtain rfl : q = M := by omega
              have hqI : ¬ (q : Int) < (q : Int) := by omega
              have HBk := hidIt (HB6.out.trans (Below.mono HBr.out HB6.out.size))
              go_wp2_with fail
              go_roundw
              case rel => exact ⟨k + 1, by omega, by go_num, HBk.out⟩
              case measure => simp [intOf]; omega
      · cases hse : (se == 0)
        · skip
          rw [hge] at HGZ
          rw [hse] at HSZ
          have hge0 : ge = 0 := beq_iff_eq.1 hge
          obtain ⟨HG1, HG2, HG3⟩ := HGO.out hge0
          have HG1 := hidIt HG1
          have HG2 := hidIt HG2
          have HG3 := hidIt HG3
          clear hge0
          have x0 := (HW6.out.go HBr.out).c0
          have x1 := (HW6.out.go HBr.out).c1
          have lx := (HW6.out.go HBr.out).l
          go_wp2_with fail
          refine (raAdmissible_any N _ _ ps x _ (HW6.out.go HBr.out).p HOK.out HPS.out (HI6.out.below HBr.out) (by have := HXL.out; omega)).mono ?_
          rw [← HGZ.out]
          rintro e wd ⟨rfl, hbd⟩
          have HBr := hidIt (HBr.out.trans (Below.mono hbd HBr.out.size))
          clear hbd x0 x1 lx
          have x0 := (HW6.out.go HBr.out).c0
          have x1 := (HW6.out.go HBr.out).c1
          have lx := (HW6.out.go HBr.out).l
          go_wp2_with fail
          refine (raConflictFree_any N _ _ ps x _ (HW6.out.go HBr.out).p HOK.out (by have := HPS.out; omega) (HI6.out.below HBr.out) (by have := HXL.out; omega)).mono ?_
          rw [← HSZ.out]
          rintro e wd ⟨rfl, hbd⟩
          have HBr := hidIt (HBr.out.trans (Below.mono hbd HBr.out.size))
          clear hbd x0 x1 lx
          have x0 := (HW6.out.go HBr.out).c0
          have x1 := (HW6.out.go HBr.out).c1
          have lx := (HW6.out.go HBr.out).l
          go_wp2_with fail
          refine (raIsComplete_any N _ _ ps al _ (HW6.out.go HBr.out).p HOK.out HPS.out (HAI6.out.below HBr.out) (by have := HAL.out; omega)).mono ?_
          rw [HG1.out]
          rintro e wd ⟨rfl, hbd⟩
          have HBr := hidIt (HBr.out.trans (Below.mono hbd HBr.out.size))
          clear hbd x0 x1 lx
          go_wp2_with fail
          refine (kInside_any _ _ x al _ (HI6.out.below HBr.out) (HAI6.out.below HBr.out) (by have := HXL.out; omega) (by have := HAL.out; omega)).mono ?_
          rw [HG2.out]
          rintro e wr ⟨rfl, rfl⟩
          go_wp2_with fail
          go_loopw [13, 85] (fun _ i wr => ∃ q : Nat, q ≤ M ∧ i = .int .i64 q ∧ Hid (Below w6.heap.size w6 wr)) (fun _ i _ => M - (intOf i).toNat)
          case atStart => exact ⟨0, Nat.zero_le _, (by first | rfl | trivial), HBr.out⟩
          case round =>
            clear HBr
            obtain ⟨q, hq, rfl, HBr⟩ := hrel
            have hq0 : (0 : Int) ≤ (q : Int) := by omega
            by_cases hqt : q < M
            · have hqI : (q : Int) < (M : Int) := by omega
              have hqz : q < (setsL N).length := by have := HSL.out; omega
              obtain ⟨bo2, oo2, u, hae, lo, cu, iu⟩ := HLC.out q hqz
              injection hae with hae
              injection hae with hae1 hae2
              subst hae1 hae2
              have HB4 := hidIt (HB6.out.trans (Below.mono HBr.out HB6.out.size))
              have cu2 := (Below.cell (p := ⟨bo, oo + q, none⟩) HB4.out lo).trans cu
              have lo2 := Nat.lt_of_lt_of_le lo HB4.out.size
              have HY6 := hidIt (iu.below HB6.out)
              have HSY := hidIt (HST.out q hqz)
              generalize (setsL N)[q] = y at *
              obtain ⟨ya, yc, rfl, -⟩ := HY6.out.form
              have HYL := hidIt (HLN.out y HSY.out)
              clear cu iu lo hqz HB4
              have HG4 := hidIt (HG3.out y HSY.out)
              clear HG3
              cases hc1 : (setB N y && compX N ps (memB y))
              focus
                have x0 := (HW6.out.go HBr.out).c0
                have x1 := (HW6.out.go HBr.out).c1
                have lx := (HW6.out.go HBr.out).l
                go_wp2_with fail
                refine (raIsComplete_any N _ _ ps y _ (HW6.out.go HBr.out).p HOK.out HPS.out (HY6.out.below HBr.out) (by have := HYL.out; omega)).mono ?_
                rw [hc1]
                rintro e wd ⟨rfl, hbd⟩
                have HBr := hidIt (HBr.out.trans (Below.mono hbd HBr.out.size))
                clear hbd x0 x1 lx
                clear hc1 HG4 cu2 lo2
              rotate_left
              focus
                have x0 := (HW6.out.go HBr.out).c0
                have x1 := (HW6.out.go HBr.out).c1
                have lx := (HW6.out.go HBr.out).l
                go_wp2_with fail
                refine (raIsComplete_any N _ _ ps y _ (HW6.out.go HBr.out).p HOK.out HPS.out (HY6.out.below HBr.out) (by have := HYL.out; omega)).mono ?_
                rw [hc1]
                rintro e wd ⟨rfl, hbd⟩
                have HBr := hidIt (HBr.out.trans (Below.mono hbd HBr.out.size))
                clear hbd x0 x1 lx
                have HG5 := hidIt (HG4.out hc1)
                clear hc1 HG4 cu2 lo2
                cases hc2 : subL x y
                focus
                  go_wp2_with fail
                  refine (kInside_any _ _ x y _ (HI6.out.below HBr.out) (HY6.out.below HBr.out) (by have := HXL.out; omega) (by have := HYL.out; omega)).mono ?_
                  rw [hc2]
                  rintro e wr ⟨rfl, rfl⟩
                  clear hc2 HG5
                rotate_left
                focus
                  have HG6 := hidIt (HG5.out hc2)
                  go_wp2_with fail
                  refine (kInside_any _ _ x y _ (HI6.out.below HBr.out) (HY6.out.below HBr.out) (by have := HXL.out; omega) (by have := HYL.out; omega)).mono ?_
                  rw [hc2]
                  rintro e wr ⟨rfl, rfl⟩
                  clear hc2 HG5
                  go_wp2_with fail
                  refine (kInside_any _ _ al y _ (HAI6.out.below HBr.out) (HY6.out.below HBr.out) (by have := HAL.out; omega) (by have := HYL.out; omega)).mono ?_
                  rw [HG6.out]
                  rintro e wr ⟨rfl, rfl⟩
                  clear HG6
              all_goals (
                go_wp2_with fail
                go_roundw
                case rel => exact ⟨q + 1, by omega, by go_num, HBr.out⟩
                case measure => simp [intOf]; omega
              )
            · obtain rfl : q = M := by omega
              have hqI : ¬ (q : Int) < (q : Int) := by omega
              have HBk := hidIt (HB6.out.trans (Below.mono HBr.out HB6.out.size))
              go_wp2_with fail
              go_roundw
              case rel => exact ⟨k + 1, by omega, by go_num, HBk.out⟩
              case measure => simp [intOf]; omega
        · skip
          rw [hge] at HGZ
          rw [hse] at HSZ
          have hge0 : ge = 0 := beq_iff_eq.1 hge
          obtain ⟨HG1, HG2, HG3⟩ := HGO.out hge0
          have HG1 := hidIt HG1
          have HG2 := hidIt HG2
          have HG3 := hidIt HG3
          have hse0 : se = 0 := beq_iff_eq.1 hse
          obtain ⟨HS1, HS2, HS3⟩ := HSO.out hse0
          have HS1 := hidIt HS1
          have HS2 := hidIt HS2
          have HS3 := hidIt HS3
          clear hge0
          clear hse0
          have x0 := (HW6.out.go HBr.out).c0
          have x1 := (HW6.out.go HBr.out).c1
          have lx := (HW6.out.go HBr.out).l
          go_wp2_with fail
          refine (raAdmissible_any N _ _ ps x _ (HW6.out.go HBr.out).p HOK.out HPS.out (HI6.out.below HBr.out) (by have := HXL.out; omega)).mono ?_
          rw [← HGZ.out]
          rintro e wd ⟨rfl, hbd⟩
          have HBr := hidIt (HBr.out.trans (Below.mono hbd HBr.out.size))
          clear hbd x0 x1 lx
          have x0 := (HW6.out.go HBr.out).c0
          have x1 := (HW6.out.go HBr.out).c1
          have lx := (HW6.out.go HBr.out).l
          go_wp2_with fail
          refine (raConflictFree_any N _ _ ps x _ (HW6.out.go HBr.out).p HOK.out (by have := HPS.out; omega) (HI6.out.below HBr.out) (by have := HXL.out; omega)).mono ?_
          rw [← HSZ.out]
          rintro e wd ⟨rfl, hbd⟩
          have HBr := hidIt (HBr.out.trans (Below.mono hbd HBr.out.size))
          clear hbd x0 x1 lx
          have x0 := (HW6.out.go HBr.out).c0
          have x1 := (HW6.out.go HBr.out).c1
          have lx := (HW6.out.go HBr.out).l
          go_wp2_with fail
          refine (raIsComplete_any N _ _ ps al _ (HW6.out.go HBr.out).p HOK.out HPS.out (HAI6.out.below HBr.out) (by have := HAL.out; omega)).mono ?_
          rw [HG1.out]
          rintro e wd ⟨rfl, hbd⟩
          have HBr := hidIt (HBr.out.trans (Below.mono hbd HBr.out.size))
          clear hbd x0 x1 lx
          go_wp2_with fail
          refine (kInside_any _ _ x al _ (HI6.out.below HBr.out) (HAI6.out.below HBr.out) (by have := HXL.out; omega) (by have := HAL.out; omega)).mono ?_
          rw [HG2.out]
          rintro e wr ⟨rfl, rfl⟩
          have x0 := (HW6.out.go HBr.out).c0
          have x1 := (HW6.out.go HBr.out).c1
          have lx := (HW6.out.go HBr.out).l
          go_wp2_with fail
          refine (raAdmissible_any N _ _ ps bl _ (HW6.out.go HBr.out).p HOK.out HPS.out (HBI.out.below HBr.out) (by have := HBL.out; omega)).mono ?_
          rw [HS1.out]
          rintro e wd ⟨rfl, hbd⟩
          have HBr := hidIt (HBr.out.trans (Below.mono hbd HBr.out.size))
          clear hbd x0 x1 lx
          go_wp2_with fail
          refine (kInside_any _ _ bl x _ (HBI.out.below HBr.out) (HI6.out.below HBr.out) (by have := HBL.out; omega) (by have := HXL.out; omega)).mono ?_
          rw [HS2.out]
          rintro e wr ⟨rfl, rfl⟩
          go_wp2_with fail
          go_loopw [13, 85] (fun _ i wr => ∃ q : Nat, q ≤ M ∧ i = .int .i64 q ∧ Hid (Below w6.heap.size w6 wr)) (fun _ i _ => M - (intOf i).toNat)
          case atStart => exact ⟨0, Nat.zero_le _, (by first | rfl | trivial), HBr.out⟩
          case round =>
            clear HBr
            obtain ⟨q, hq, rfl, HBr⟩ := hrel
            have hq0 : (0 : Int) ≤ (q : Int) := by omega
            by_cases hqt : q < M
            · have hqI : (q : Int) < (M : Int) := by omega
              have hqz : q < (setsL N).length := by have := HSL.out; omega
              obtain ⟨bo2, oo2, u, hae, lo, cu, iu⟩ := HLC.out q hqz
              injection hae with hae
              injection hae with hae1 hae2
              subst hae1 hae2
              have HB4 := hidIt (HB6.out.trans (Below.mono HBr.out HB6.out.size))
              have cu2 := (Below.cell (p := ⟨bo, oo + q, none⟩) HB4.out lo).trans cu
              have lo2 := Nat.lt_of_lt_of_le lo HB4.out.size
              have HY6 := hidIt (iu.below HB6.out)
              have HSY := hidIt (HST.out q hqz)
              generalize (setsL N)[q] = y at *
              obtain ⟨ya, yc, rfl, -⟩ := HY6.out.form
              have HYL := hidIt (HLN.out y HSY.out)
              clear cu iu lo hqz HB4
              have HG4 := hidIt (HG3.out y HSY.out)
              clear HG3
              cases hc1 : (setB N y && compX N ps (memB y))
              focus
                have x0 := (HW6.out.go HBr.out).c0
                have x1 := (HW6.out.go HBr.out).c1
                have lx := (HW6.out.go HBr.out).l
                go_wp2_with fail
                refine (raIsComplete_any N _ _ ps y _ (HW6.out.go HBr.out).p HOK.out HPS.out (HY6.out.below HBr.out) (by have := HYL.out; omega)).mono ?_
                rw [hc1]
                rintro e wd ⟨rfl, hbd⟩
                have HBr := hidIt (HBr.out.trans (Below.mono hbd HBr.out.size))
                clear hbd x0 x1 lx
                clear hc1 HG4 cu2 lo2
              rotate_left
              focus
                have x0 := (HW6.out.go HBr.out).c0
                have x1 := (HW6.out.go HBr.out).c1
                have lx := (HW6.out.go HBr.out).l
                go_wp2_with fail
                refine (raIsComplete_any N _ _ ps y _ (HW6.out.go HBr.out).p HOK.out HPS.out (HY6.out.below HBr.out) (by have := HYL.out; omega)).mono ?_
                rw [hc1]
                rintro e wd ⟨rfl, hbd⟩
                have HBr := hidIt (HBr.out.trans (Below.mono hbd HBr.out.size))
                clear hbd x0 x1 lx
                have HG5 := hidIt (HG4.out hc1)
                clear hc1 HG4 cu2 lo2
                cases hc2 : subL x y
                focus
                  go_wp2_with fail
                  refine (kInside_any _ _ x y _ (HI6.out.below HBr.out) (HY6.out.below HBr.out) (by have := HXL.out; omega) (by have := HYL.out; omega)).mono ?_
                  rw [hc2]
                  rintro e wr ⟨rfl, rfl⟩
                  clear hc2 HG5
                rotate_left
                focus
                  have HG6 := hidIt (HG5.out hc2)
                  go_wp2_with fail
                  refine (kInside_any _ _ x y _ (HI6.out.below HBr.out) (HY6.out.below HBr.out) (by have := HXL.out; omega) (by have := HYL.out; omega)).mono ?_
                  rw [hc2]
                  rintro e wr ⟨rfl, rfl⟩
                  clear hc2 HG5
                  go_wp2_with fail
                  refine (kInside_any _ _ al y _ (HAI6.out.below HBr.out) (HY6.out.below HBr.out) (by have := HAL.out; omega) (by have := HYL.out; omega)).mono ?_
                  rw [HG6.out]
                  rintro e wr ⟨rfl, rfl⟩
                  clear HG6
              all_goals (
                have HS4 := hidIt (HS3.out y HSY.out)
                clear HS3
                cases hd1 : subL y x
                focus
                  go_wp2_with fail
                  refine (kInside_any _ _ y x _ (HY6.out.below HBr.out) (HI6.out.below HBr.out) (by have := HYL.out; omega) (by have := HXL.out; omega)).mono ?_
                  rw [hd1]
                  rintro e wr ⟨rfl, rfl⟩
                  clear hd1 HS4
                rotate_left
                focus
                  go_wp2_with fail
                  refine (kInside_any _ _ y x _ (HY6.out.below HBr.out) (HI6.out.below HBr.out) (by have := HYL.out; omega) (by have := HXL.out; omega)).mono ?_
                  rw [hd1]
                  rintro e wr ⟨rfl, rfl⟩
                  have HS5 := hidIt (HS4.out hd1)
                  clear hd1 HS4
                  cases hd2 : (setB N y && admX N ps (memB y))
                  focus
                    have x0 := (HW6.out.go HBr.out).c0
                    have x1 := (HW6.out.go HBr.out).c1
                    have lx := (HW6.out.go HBr.out).l
                    go_wp2_with fail
                    refine (raAdmissible_any N _ _ ps y _ (HW6.out.go HBr.out).p HOK.out HPS.out (HY6.out.below HBr.out) (by have := HYL.out; omega)).mono ?_
                    rw [hd2]
                    rintro e wd ⟨rfl, hbd⟩
                    have HBr := hidIt (HBr.out.trans (Below.mono hbd HBr.out.size))
                    clear hbd x0 x1 lx
                    clear hd2 HS5
                  rotate_left
                  focus
                    have HS6 := hidIt (HS5.out hd2)
                    have x0 := (HW6.out.go HBr.out).c0
                    have x1 := (HW6.out.go HBr.out).c1
                    have lx := (HW6.out.go HBr.out).l
                    go_wp2_with fail
                    refine (raAdmissible_any N _ _ ps y _ (HW6.out.go HBr.out).p HOK.out HPS.out (HY6.out.below HBr.out) (by have := HYL.out; omega)).mono ?_
                    rw [hd2]
                    rintro e wd ⟨rfl, hbd⟩
                    have HBr := hidIt (HBr.out.trans (Below.mono hbd HBr.out.size))
                    clear hbd x0 x1 lx
                    clear hd2 HS5
                    go_wp2_with fail
                    refine (kInside_any _ _ y bl _ (HY6.out.below HBr.out) (HBI.out.below HBr.out) (by have := HYL.out; omega) (by have := HBL.out; omega)).mono ?_
                    rw [HS6.out]
                    rintro e wr ⟨rfl, rfl⟩
                    clear HS6
              )
              all_goals (
                go_wp2_with fail
                go_roundw
                case rel => exact ⟨q + 1, by omega, by go_num, HBr.out⟩
                case measure => simp [intOf]; omega
              )
            · obtain rfl : q = M := by omega
              have hqI : ¬ (q : Int) < (q : Int) := by omega
              have HBk := hidIt (HB6.out.trans (Below.mono HBr.out HB6.out.size))
              go_wp2_with fail
              go_roundw
              case rel => exact ⟨k + 1, by omega, by go_num, HBk.out⟩
              case measure => simp [intOf]; omega
    · obtain rfl : k = M := by omega
      have hkI : ¬ (k : Int) < (k : Int) := by omega
      go_wp2_with fail
      refine (awake13_any _ HWr.out.t).mono ?_
      rintro e w30 ⟨rfl, hb⟩
      have HBF := hidIt (HWr.out.b.trans (Below.mono hb HWr.out.b.size))
      clear hb
      go_wp2_with fail
      go_ret
      exact ⟨rfl, HBF.out⟩
end Go.Proofs.YtihmdnbeonefcaaDoor
