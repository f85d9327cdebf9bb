/- The law LabellingComplete: for every list of numbers it answers true. -/
import Derived.Test.YtbahfcefplgigaaL1U
import Derived.Test.YtbahfcefplgigaaL1S
namespace Go.Proofs.Ytbahfcefplgigaa
set_option linter.unusedVariables false
set_option linter.unusedSimpArgs false
open Go Go.RowKit Go.Sort

theorem mem_ints_with {x : List Int} {y : Int} {g : Nat} : (g : Int) ∈ ints (withF x y) ↔ x[g]? = some y := by
  unfold ints
  rw [List.mem_map]
  constructor
  · rintro ⟨j, hj, he⟩
    obtain rfl : j = g := Int.ofNat.inj he
    exact mem_withF.1 hj
  · exact fun h => ⟨g, mem_withF.2 h, rfl⟩
/-- What is known of a complete labelling. -/
structure Cmp (N : Nat) (ps : List (Int × Int)) (x : List Int) : Prop where
  len : x.length = N
  ok : LabOk x
  leg : ∀ i, i < N → x.getD i 0 = legL ps x i
theorem cmp_of {N : Nat} {ps : List (Int × Int)} {x : List Int} (h : (validB N x && decide ((illL N ps x).length = 0)) = true) : Cmp N ps x := by
  rw [Bool.and_eq_true, decide_eq_true_eq] at h
  obtain ⟨h1, h2⟩ := h
  obtain ⟨h3, h4⟩ := validB_iff.1 h1
  refine ⟨h3, h4, fun i hi => Classical.byContradiction fun hne => ?_⟩
  have hm := (mem_illL (ps := ps) hi h3 h4).2 hne
  rw [List.eq_nil_of_length_eq_zero h2] at hm
  cases hm
theorem any_cnt {N : Nat} {ps : List (Int × Int)} {x : List Int} (h : Cmp N ps x) (hok : GOk (N : Int) ps) (i : Nat) : (ps.any fun p => p.2 == (i : Int) && decide (p.1 ∈ ints (withF x 1))) = decide (0 < cntN ps x i 1) := by
  rw [Bool.eq_iff_iff, List.any_eq_true, decide_eq_true_eq]
  unfold cntN
  have key : ∀ p ∈ ps, (p.1 ∈ ints (withF x 1) ↔ x.getD p.1.toNat 0 = 1) := fun p hp => by
    have hr := (hok.ix p hp).1
    obtain ⟨g, hg⟩ : ∃ g : Nat, p.1 = (g : Int) := ⟨p.1.toNat, by omega⟩
    rw [hg, mem_ints_with, Int.toNat_natCast, List.getD_eq_getElem?_getD]
    have hgl : g < x.length := by rw [h.len]; omega
    rw [List.getElem?_eq_getElem hgl]
    simp
  constructor
  · rintro ⟨p, hp, hq⟩
    rw [Bool.and_eq_true, decide_eq_true_eq] at hq
    refine List.length_pos_of_mem (a := p) (List.mem_filter.2 ⟨hp, ?_⟩)
    rw [Bool.and_eq_true]
    exact ⟨hq.1, beq_iff_eq.2 ((key p hp).1 hq.2)⟩
  · intro hl
    obtain ⟨p, hp⟩ := List.exists_mem_of_length_pos hl
    obtain ⟨hp, hq⟩ := List.mem_filter.1 hp
    rw [Bool.and_eq_true] at hq
    refine ⟨p, hp, ?_⟩
    rw [Bool.and_eq_true, decide_eq_true_eq]
    exact ⟨hq.1, (key p hp).2 (by have := beq_iff_eq.1 hq.2; exact this)⟩
theorem cmp_two {N : Nat} {ps : List (Int × Int)} {x : List Int} (h : Cmp N ps x) {i : Nat} (hi : i < N) : decide (0 < cntN ps x i 1) = decide (x.getD i 0 = 2) := by
  have hl := h.leg i hi
  rw [decide_eq_decide]
  unfold legL legC at hl
  constructor
  · intro hc
    rw [if_pos (by omega)] at hl
    exact hl
  · intro h2
    rw [h2] at hl
    by_cases hc : 0 < ((cntN ps x i 1 : Nat) : Int)
    · omega
    · rw [if_neg hc] at hl
      split at hl <;> cases hl
theorem cmp_back {N : Nat} {ps : List (Int × Int)} {x : List Int} (h : Cmp N ps x) (hok : GOk (N : Int) ps) : fsF N ps (ints (withF x 1)) = x := by
  apply List.ext_getElem
  · rw [fsF_len, h.len]
  · intro i h1 h2
    rw [fsF_get]
    have hi : i < N := by rw [fsF_len] at h1; exact h1
    have hg : x.getD i 0 = x[i] := by rw [List.getD_eq_getElem?_getD, List.getElem?_eq_getElem h2]; rfl
    have hx := h.ok x[i] (List.getElem_mem h2)
    unfold labOf
    rw [any_cnt h hok, cmp_two h hi, hg]
    have hm : ((i : Int) ∈ ints (withF x 1)) ↔ x[i] = 1 := by
      rw [mem_ints_with, List.getElem?_eq_getElem h2]
      simp
    have hd : decide ((i : Int) ∈ ints (withF x 1)) = decide (x[i] = 1) := decide_eq_decide.2 hm
    rw [hd]
    rcases hx with e | e | e <;> simp [e]
theorem hit_end {N : Nat} {ps : List (Int × Int)} {x : List Int} (h : Cmp N ps x) (hok : GOk (N : Int) ps) {i : Nat} (hi : i < N) : ((inL ps (i : Int)).any fun k => decide (k ∈ ints (withF x 1))) = decide (x.getD i 0 = 2) := by
  rw [inL_any, any_cnt h hok, cmp_two h hi]

set_option maxRecDepth 100000 in
set_option maxHeartbeats 4000000 in
theorem complete_walk (lv : Value) (zs : List Int) (w : World) (hz : IntsAt w w.heap.size lv zs) :
    Calls Try.prog 7 #[lv] w fun e w' => e = .returned (.bool true) ∧ Below w.heap.size w w' := by
  have HZ := hidIt hz
  clear hz
  go_enter Try.func7, Try.ntmps7
  go_wp2_with fail
  refine (new_any lv zs w.heap.size w HZ.out (Nat.le_refl _)).mono ?_
  rintro e w1 ⟨zs', rfl, hs1, o1, rfl⟩
  have HS1 := hidIt hs1
  have HB1 := hidIt (bgrow w o1)
  have hsz1 : w.heap.size < (w.alloc o1).heap.size := hs1.lt
  clear hs1
  generalize w.alloc o1 = w1 at *
  go_wp2_with fail
  refine (kGraph_any 5 (by decide) _ _ _ _ w1 HS1.out).mono ?_
  rintro e w2 ⟨N, ps, ga, gc, k2, rfl, hN, hok, hpl, hop, hs2, hg2⟩
  have HOK := hidIt hok
  have HPS := hidIt hpl
  have hgr := bgrow w2 (.cells #[.int .i64 (N : Int), .slice ga ps.length gc] 27)
  have HO3 := hidIt (hop.r.go hgr).at_
  have HX3 := hidIt (heap_alloc_new w2 (.cells #[.int .i64 (N : Int), .slice ga ps.length gc] 27))
  have HB2 := hidIt (below_read HB1.out hg2 (Nat.le_of_lt hsz1))
  have HB3 := hidIt (HB2.out.trans (Below.mono hgr HB2.out.size))
  clear hok hpl hop hs2 hg2 hgr HB2 HS1 HB1
  go_upto_region 3 with (fail)
  generalize (w2.alloc (.cells #[.int .i64 (N : Int), .slice ga ps.length gc] 27)) = w3 at *
  generalize w2.heap.size = G at *
  obtain ⟨x0, x1⟩ := And.intro (cell_two0 HX3.out) (cell_two1 HX3.out)
  have lx := lt_of_block HX3.out
  go_wp2_with fail
  refine (rlLabellings_any N (by omega) w3).mono ?_
  rintro e w4 ⟨zss, la, lc, rfl, hll, hsh, hzl, hb4⟩
  have HSH := hidIt hsh
  have HO4 := hidIt (HO3.out.below hb4)
  have HX4 := hidIt (blk_kept2 HX3.out hb4)
  have HB4 := hidIt (HB3.out.trans (Below.mono hb4 HB3.out.size))
  obtain ⟨la', lc', hle, hcs⟩ := hll.form
  injection hle with hle1 hle2 hle3
  subst hle1 hle3
  have HLC := hidIt hcs
  obtain ⟨M, hM⟩ : ∃ M, M = zss.length := ⟨_, rfl⟩
  have HM := hidIt hM
  have hM243 : M ≤ 243 := by omega
  rw [← hM]
  clear hsh hll hb4 hzl hle2 hcs hM HO3 HX3 HB3 x0 x1 lx
  go_wp2_with fail
  go_loopw [6, 7, 8, 9, 11, 20, 46] (fun _ _ _ _ _ i _ wr => ∃ k : Nat, k ≤ M ∧ i = .int .i64 k ∧ Hid (Below w4.heap.size w4 wr)) (fun _ _ _ _ _ i _ _ => M - (intOf i).toNat)
  case atStart => exact ⟨0, Nat.zero_le _, (by first | rfl | trivial), Below.refl _ _⟩
  case round =>
    obtain ⟨k, hk, rfl, HB⟩ := hrel
    have hk0 : (0 : Int) ≤ (k : Int) := by omega
    by_cases hlt : k < M
    · have hkI : (k : Int) < (M : Int) := by omega
      have hkz : k < zss.length := by have := HM.out; omega
      obtain ⟨bo, oo, u, rfl, lo, cu, iu⟩ := HLC.out k hkz
      have cu2 := (Below.cell (p := ⟨bo, oo + k, none⟩) HB.out lo).trans cu
      have lo2 := Nat.lt_of_lt_of_le lo HB.out.size
      have HIX := hidIt (iu.below HB.out)
      have HXN : Hid (zss[k].length ≤ 1000) := by show _ ≤ _; have := HSH.out k hkz; omega
      generalize zss[k] = x at *
      obtain ⟨xa, xc, rfl, -⟩ := HIX.out.form
      clear cu iu lo hkz
      have HXr := hidIt (blk_kept2 HX4.out HB.out)
      have HOr := hidIt (HO4.out.below HB.out)
      obtain ⟨x0, x1⟩ := And.intro (cell_two0 HXr.out) (cell_two1 HXr.out)
      have lx := lt_of_block HXr.out
      have HC := hidIt (lIsComplete_any N _ _ ps x wr HOr.out HOK.out HPS.out HIX.out HXN.out)
      cases hcp : (validB N x && decide ((illL N ps x).length = 0))
      · rw [hcp] at HC
        clear hcp
        go_wp2_with fail
        refine HC.out.mono ?_
        rintro e w5 ⟨rfl, hb5⟩
        have HB5 := hidIt (HB.out.trans (Below.mono hb5 HB.out.size))
        clear hb5
        go_wp2_with fail
        go_roundw
        case rel => exact ⟨k + 1, by omega, by go_num, HB5.out⟩
        case measure => simp [intOf]; omega
      have HCM := hidIt (cmp_of hcp)
      rw [hcp] at HC
      have HBK := hidIt (cmp_back HCM.out HOK.out)
      have HHE : Hid (∀ i, i < N → ((inL ps (i : Int)).any fun k => decide (k ∈ ints (withF x 1))) = decide (x.getD i 0 = 2)) := fun i hi => hit_end HCM.out HOK.out hi
      have HXLN := hidIt HCM.out.len
      have HWL : Hid ((ints (withF x 1)).length ≤ 1000) := by
        show _ ≤ _
        rw [ints_len]
        have h1 := withTo_len x 1 x.length
        have h2 : withF x 1 = withTo x 1 x.length := rfl
        rw [h2]
        have := HXN.out
        omega
      clear hcp
      go_wp2_with fail
      refine HC.out.mono ?_
      rintro e w5 ⟨rfl, hb5⟩
      have HB5 := hidIt (HB.out.trans (Below.mono hb5 HB.out.size))
      have HI5 := hidIt (HIX.out.below hb5)
      have HX5 := hidIt (blk_kept2 HXr.out hb5)
      have HO5 := hidIt (HOr.out.below hb5)
      clear hb5 HC x0 x1 lx HXr HOr HIX HB cu2 lo2
      go_wp2_with fail
      refine (lWith_any _ x 1 _ HI5.out (by have := HXN.out; omega)).mono ?_
      rintro e w6 ⟨ia, ic, rfl, ho6, hb6⟩
      have HIN6 := hidIt ho6.il
      have HB6 := hidIt (HB5.out.trans (Below.mono hb6 HB5.out.size))
      have HI6 := hidIt (HI5.out.below hb6)
      have HX6 := hidIt (blk_kept2 HX5.out hb6)
      have HO6 := hidIt (HO5.out.below hb6)
      clear ho6 hb6 HB5 HI5 HX5 HO5
      obtain ⟨x0, x1⟩ := And.intro (cell_two0 HX6.out) (cell_two1 HX6.out)
      have lx := lt_of_block HX6.out
      have HIL : Hid ((ints (withF x 1)).length = (withF x 1).length) := ints_len _
      generalize ints (withF x 1) = ins at *
      generalize (withF x 1).length = inl at *
      go_wp2_with fail
      refine (lFromSet_any N _ _ ps ins _ HO6.out HOK.out HPS.out HIN6.out HWL.out).mono ?_
      rw [HBK.out]
      rintro e w7 ⟨R, rfl, -, hr7, hb7⟩
      have HR7 : Hid (IL w7 (.slice (some ⟨R, 0, none⟩) N N) x) := by
        have h := hr7.il (c := N) (by rw [HXLN.out]; exact Nat.le_refl _) (by unfold maxLen; omega)
        rw [HXLN.out] at h
        exact h
      have HB7 := hidIt (HB6.out.trans (Below.mono hb7 HB6.out.size))
      have HI7 := hidIt (HI6.out.below hb7)
      have HX7 := hidIt (blk_kept2 HX6.out hb7)
      have HO7 := hidIt (HO6.out.below hb7)
      have HIN7 := hidIt (HIN6.out.below hb7)
      clear hr7 hb7 HB6 HI6 HX6 HO6 HIN6 x0 x1 lx
      go_wp2_with fail
      refine (kInts_any _ _ x x _ HR7.out HI7.out (by have := HXN.out; omega) (by have := HXN.out; omega)).mono ?_
      rw [decide_eq_true rfl]
      rintro e w8 ⟨rfl, hb8⟩
      have HB8 := hidIt (HB7.out.trans (Below.mono hb8 HB7.out.size))
      have HI8 := hidIt (HI7.out.below hb8)
      have HX8 := hidIt (blk_kept2 HX7.out hb8)
      have HO8 := hidIt (HO7.out.below hb8)
      have HIN8 := hidIt (HIN7.out.below hb8)
      clear hb8 HB7 HI7 HX7 HO7 HIN7 HR7
      go_wp2_with fail
      go_loopw [8, 9, 11, 46] (fun v8 _ _ _ wr => ∃ i : Nat, i ≤ N ∧ v8 = .int .i64 i ∧ Hid (Below w8.heap.size w8 wr)) (fun v8 _ _ _ _ => N - (intOf v8).toNat)
      case atStart => exact ⟨0, Nat.zero_le _, (by first | rfl | trivial), Below.refl _ _⟩
      case round =>
        obtain ⟨i, hi, rfl, HBi⟩ := hrel
        have hi0 : (0 : Int) ≤ (i : Int) := by omega
        have HXi := hidIt (blk_kept2 HX8.out HBi.out)
        obtain ⟨x0, x1⟩ := And.intro (cell_two0 HXi.out) (cell_two1 HXi.out)
        have lx := lt_of_block HXi.out
        by_cases hin : i < N
        · have hiI : (i : Int) < (N : Int) := by omega
          have HAT := hidIt (gAttackers_any (N : Int) _ ps (i : Int) wr (HO8.out.below HBi.out) HPS.out)
          rw [vL_of HOK.out] at HAT
          go_wp2_with fail
          refine HAT.out.mono ?_
          rintro e w9 ⟨v9, rfl, hi9, hb9⟩
          have HKL := hidIt (inL_len ps (i : Int))
          have HHI := hidIt (HHE.out i hin)
          generalize inL ps (i : Int) = ks at *
          obtain ⟨ka, kc, rfl, hick⟩ := hi9.ic
          have HK := hidIt hick
          have HB9 := hidIt (HBi.out.trans (Below.mono hb9 HBi.out.size))
          have HIN9 := hidIt (HIN8.out.below HB9.out)
          obtain ⟨A, hA⟩ : ∃ A, A = ks.length := ⟨_, rfl⟩
          have HA := hidIt hA
          rw [← hA]
          have hA1 : A ≤ 1000 := by have := HKL.out; have := HPS.out; omega
          clear hA hi9 hick hb9 HAT x0 x1 lx HXi HBi
          go_wp2_with fail
          go_loopw [9, 11, 46] (fun v9 _ v46 wr => ∃ q : Nat, q ≤ A ∧ v46 = .int .i64 q ∧ v9 = .bool ((ks.take q).any fun k => decide (k ∈ ins)) ∧ Hid (Below w9.heap.size w9 wr)) (fun _ _ v46 _ => A - (intOf v46).toNat)
          case atStart => exact ⟨0, Nat.zero_le _, (by first | rfl | trivial), (by first | rfl | trivial), Below.refl _ _⟩
          case round =>
            obtain ⟨q, hq, rfl, rfl, HBq⟩ := hrel
            have hq0 : (0 : Int) ≤ (q : Int) := by omega
            by_cases hqA : q < A
            · have hqI : (q : Int) < (A : Int) := by omega
              have hqk : q < ks.length := by have := HA.out; omega
              obtain ⟨b1, o1, rfl, l1, hc1⟩ := (HK.out.go HBq.out).at_ hqk
              have p0 := hc1 q hqk
              have HST := hidIt (any_stepI hqk fun k => decide (k ∈ ins))
              have HINq := hidIt (HIN9.out.below HBq.out)
              clear hc1
              generalize ks[q] = z at *
              clear hqk
              cases hh : (ks.take q).any fun k => decide (k ∈ ins)
              · rw [hh, Bool.false_or] at HST
                have HKI := hidIt (kIn_any _ ins z wr HINq.out (by have := HWL.out; omega))
                generalize hd : decide (z ∈ ins) = D at *
                have HD := hidIt hd
                clear hd hh
                go_wp2_with fail
                refine HKI.out.mono ?_
                rintro e w10 ⟨rfl, rfl⟩
                go_wp2_with fail
                go_roundw
                case rel => exact ⟨q + 1, by omega, by go_num, (by first | (rw [HST.out]; done) | (rw [HST.out]; rfl) | (simp [HST.out]; done)), HBq.out⟩
                case measure => simp [intOf]; omega
              · rw [hh, Bool.true_or] at HST
                clear hh
                go_wp2_with fail
                go_roundw
                case rel => exact ⟨q + 1, by omega, by go_num, (by first | (rw [HST.out]; done) | (rw [HST.out]; rfl) | (simp [HST.out]; done)), HBq.out⟩
                case measure => simp [intOf]; omega
            · obtain rfl : q = A := by omega
              have hqI : ¬ (q : Int) < (q : Int) := by omega
              have HHF : Hid (((ks.take q).any fun k => decide (k ∈ ins)) = decide (x.getD i 0 = 2)) := by
                show _ = _
                rw [List.take_of_length_le (by have := HA.out; omega)]
                exact HHI.out
              rw [HHF.out]
              have hil : i < x.length := by rw [HXLN.out]; exact hin
              have hgd : x.getD i 0 = x[i] := by rw [List.getD_eq_getElem?_getD, List.getElem?_eq_getElem hil]; rfl
              rw [hgd]
              have HIq := hidIt ((HI8.out.below HB9.out).below HBq.out)
              obtain ⟨xa', xc', hxe, hxic⟩ := HIq.out.ic
              injection hxe with hxe1 hxe2 hxe3
              subst hxe1 hxe3
              obtain ⟨b2, o2, rfl, l2, hc2⟩ := hxic.at_ hil
              have q0 := hc2 i hil
              have HBZ := hidIt (HB9.out.trans (Below.mono HBq.out HB9.out.size))
              clear hgd hc2 hxic hxe2
              generalize x[i] = y at *
              have hilI : (i : Int) < (x.length : Int) := by omega
              clear hil
              by_cases hy : y = 2
              · subst hy
                go_wp2_with fail
                go_roundw
                case rel => exact ⟨i + 1, by omega, by go_num, HBZ.out⟩
                case measure => simp [intOf]; omega
              · have hb1 : (y == 2) = false := beq_eq_false_iff_ne.2 hy
                rw [decide_eq_false hy]
                clear hy
                go_wp2_with fail
                go_roundw
                case rel => exact ⟨i + 1, by omega, by go_num, HBZ.out⟩
                case measure => simp [intOf]; omega
        · obtain rfl : i = N := by omega
          have hiI : ¬ (i : Int) < (i : Int) := by omega
          have HBZ := hidIt (HB8.out.trans (Below.mono HBi.out HB8.out.size))
          go_wp2_with fail
          go_roundw
          case rel => exact ⟨k + 1, by omega, by go_num, HBZ.out⟩
          case measure => simp [intOf]; omega
    · obtain rfl : k = M := by omega
      have hkI : ¬ (k : Int) < (k : Int) := by omega
      go_wp2_with fail
      refine (awake11_any _).mono ?_
      rintro e w30 ⟨rfl, hb⟩
      have HBF := hidIt ((HB4.out.trans (Below.mono HB.out HB4.out.size)).trans (Below.mono hb (Nat.le_trans HB4.out.size HB.out.size)))
      clear hb
      go_wp2_with fail
      go_ret
      exact ⟨rfl, HBF.out⟩
end Go.Proofs.Ytbahfcefplgigaa
