/- The label of a node depends on the nodes that reach it alone. The law GroundedLocal: for every list of numbers it answers true. -/
import Derived.Test.YtcelijjohcfhkaaDoorZ1D
import Derived.Test.YtcelijjohcfhkaaDoorZ1E
import Derived.Test.YtcelijjohcfhkaaDoorZ1G
import Derived.Test.YtcelijjohcfhkaaDoorG1I
import Derived.Test.YtcelijjohcfhkaaDoorNew
import Derived.BigQuiet

namespace Go.Proofs.YtcelijjohcfhkaaDoor
set_option linter.unusedVariables false
set_option linter.unusedSimpArgs false
open Go Go.RowKit Go.Sort

theorem map_getD {l : List Nat} {f : Nat → Int} {i : Nat} (hi : i < l.length) : (l.map f).getD i 0 = f l[i] := by
  rw [List.getD_eq_getElem?_getD, List.getElem?_map, List.getElem?_eq_getElem hi]; rfl
/-- In a part that holds all attackers of its nodes the grounded labels and ranks are the same. -/
theorem gs_part {N : Nat} (hN : N ≤ 40) {ps : List (Int × Int)} (hok : GOk (N : Int) ps) {lab rk : List Int} (h : GSpec N ps lab rk) {l : List Nat} (hl : Asc N l) (hcl : ∀ x ∈ l, ∀ k, At ps k x → k ∈ l) :
    GSpec l.length (indL (N : Int) ps (ints l)) (l.map fun x => lab.getD x 0) (l.map fun x => rk.getD x 0) := by
  have hlt : ∀ i (hi : i < l.length), l[i] < N := fun i hi => hl.lt _ (List.getElem_mem hi)
  have hat : ∀ a b (ha : a < l.length) (hb : b < l.length), At (indL (N : Int) ps (ints l)) a b ↔ At ps l[a] l[b] := fun a b ha hb => mem_ind hN hok hl ha hb
  have hlen : l.length ≤ N := nodup_lt_len N l (hl.up.imp fun {a b} h => by omega) hl.lt
  have hiok := ind_ok hN hok hl (by omega)
  have hin : ∀ a b, At (indL (N : Int) ps (ints l)) a b → a < l.length ∧ b < l.length := fun a b hab => at_lt hiok.ix hab
  -- an attacker of a node of the part has a place in it
  have hpl : ∀ b (hb : b < l.length) k, At ps k l[b] → ∃ a, ∃ ha : a < l.length, l[a] = k ∧ At (indL (N : Int) ps (ints l)) a b := fun b hb k hk => by
    obtain ⟨a, ha, rfl⟩ := List.getElem_of_mem (hcl _ (List.getElem_mem hb) k hk)
    exact ⟨a, ha, rfl, (hat a b ha hb).2 hk⟩
  refine ⟨List.length_map .., List.length_map .., fun i hi => ?_, fun i hi e => ?_, fun i hi e => ?_, fun i hi e => ?_⟩
  · rw [map_getD hi]; exact h.lo _ (hlt i hi)
  · rw [map_getD hi] at e ⊢
    obtain ⟨g1, g2, g3⟩ := h.inn _ (hlt i hi) e
    refine ⟨g1, fun k hk => ?_, ?_⟩
    · obtain ⟨hkl, -⟩ := hin k i hk
      rw [map_getD hkl, map_getD hkl]
      exact g2 _ ((hat k i hkl hi).1 hk)
    · rcases g3 with g3 | ⟨k, hk, g3⟩
      · exact .inl g3
      · obtain ⟨a, ha, rfl, hai⟩ := hpl i hi k hk
        exact .inr ⟨a, hai, by rw [map_getD ha]; exact g3⟩
  · rw [map_getD hi] at e ⊢
    obtain ⟨g1, ⟨k, hk, e1, e2⟩, g3⟩ := h.out _ (hlt i hi) e
    obtain ⟨a, ha, rfl, hai⟩ := hpl i hi k hk
    refine ⟨g1, ⟨a, hai, by rw [map_getD ha]; exact e1, by rw [map_getD ha]; exact e2⟩, fun m hm hm1 => ?_⟩
    obtain ⟨hml, -⟩ := hin m i hm
    rw [map_getD hml] at hm1 ⊢
    exact g3 _ ((hat m i hml hi).1 hm) hm1
  · rw [map_getD hi] at e ⊢
    obtain ⟨g1, ⟨k, hk, e1⟩, g3⟩ := h.und _ (hlt i hi) e
    obtain ⟨a, ha, rfl, hai⟩ := hpl i hi k hk
    refine ⟨g1, ⟨a, hai, by rw [map_getD ha]; exact e1⟩, fun m hm => ?_⟩
    obtain ⟨hml, -⟩ := hin m i hm
    rw [map_getD hml]
    exact g3 _ ((hat m i hml hi).1 hm)
end Go.Proofs.YtcelijjohcfhkaaDoor

namespace Go.Proofs.YtcelijjohcfhkaaDoor
set_option linter.unusedVariables false
set_option linter.unusedSimpArgs false
open Go Go.RowKit Go.Sort

theorem below_drewNL (n m : Nat) (w : World) : Below n w (w.drewN m) := ⟨rfl, rfl, rfl, Nat.le_refl _, fun _ _ => rfl⟩
theorem below_readL {w a a' : World} {b : Nat} (h : Below b w a) (hg : a.grownBy a' (some b)) (hna : b ≤ a.heap.size) : Below b w a' := below_app5 h hg (fun g e => by injection e with e; omega) hna
theorem IR.go2 {w w' : World} {b : Nat} {zs : List Int} (h : IR w b zs) (hb : Below w.heap.size w w') : IR w' b zs := blk_kept2 h hb
theorem reach_asc (N : Nat) (R : List (Int × Int)) (i : Nat) : Asc N (reachN N R i) := by
  refine ⟨(range_up N).sublist List.filter_sublist, fun x hx => ?_⟩
  exact List.mem_range.1 (List.mem_filter.1 hx).1
/-- What reaches the node i backwards holds the attackers of all of its nodes. -/
theorem reach_cl {N : Nat} {ps : List (Int × Int)} (hok : GOk (N : Int) ps) (i : Nat) : ∀ x ∈ reachN N (revL N ps) i, ∀ k, At ps k x → k ∈ reachN N (revL N ps) i := fun x hx k hk => by
  have h1 := rchB_iff.1 (List.mem_filter.1 hx).2
  refine List.mem_filter.2 ⟨List.mem_range.2 (at_lt hok.ix hk).1, rchB_iff.2 (.step h1 (mem_revL.2 ⟨?_, hk⟩))⟩
  exact (hok.ix _ hk).2
theorem reachL_eq {N : Nat} {R : List (Int × Int)} {i : Nat} (hi : i < N) : reachL (N : Int) R (i : Int) = ints (reachN N R i) := by
  unfold reachL
  rw [if_pos (by unfold ixB; simp; omega)]
  rfl
theorem ind_short (m : Int) (ps : List (Int × Int)) (zs : List Int) : (indL m ps zs).length ≤ ps.length := by
  unfold indL partL
  rw [List.length_map]
  exact List.length_filter_le _ _
theorem ints_at {l : List Nat} {q : Nat} (h : q < l.length) : (ints l)[q]'(by rw [ints_len]; exact h) = (l[q] : Int) := by simp [ints]

set_option maxRecDepth 100000 in
set_option maxHeartbeats 2000000 in
theorem local_walk (lv : Value) (zs : List Int) (w : World) (hz : IntsAt w w.heap.size lv zs) (hT : Tab w) :
    Calls Tryd.prog 5 #[lv] w fun e w' => e = .returned (.bool true) ∧ Below w.heap.size w w' := by
  have HT := hidIt hT
  have HZ := hidIt hz
  clear hz hT
  go_enter Tryd.func5, Tryd.ntmps5
  go_wp2_with fail
  refine (new_any lv zs w.heap.size w HZ.out (Nat.le_refl _)).mono ?_
  rintro e w1 ⟨zs', rfl, hs1, o1, rfl⟩
  have HS1 := hidIt hs1
  have HB1 := hidIt (bgrow w o1)
  have hsz1 : w.heap.size < (w.alloc o1).heap.size := hs1.lt
  clear hs1
  generalize w.alloc o1 = w1 at *
  go_wp2_with fail
  refine (kGraph_any 9 (by decide) _ _ _ _ w1 HS1.out).mono ?_
  rintro e w2 ⟨N, ps, ga, gc, k2, rfl, hN, hok, hpl, hop, hs2, hg2⟩
  have HOK := hidIt hok
  have HPL := hidIt hpl
  have hgr := bgrow w2 (.cells #[.int .i64 (N : Int), .slice ga ps.length gc] 24)
  have HP3 := hidIt ((hop.below hgr).lits)
  have HX3 := hidIt (heap_alloc_new w2 (.cells #[.int .i64 (N : Int), .slice ga ps.length gc] 24))
  have HB2 := hidIt (below_readL HB1.out hg2 (Nat.le_of_lt hsz1))
  have HB3 := hidIt (HB2.out.trans (Below.mono hgr HB2.out.size))
  clear hok hpl hop hs2 hg2 hgr HB2 HS1 HB1
  go_upto_region 3 with (fail)
  generalize (w2.alloc (.cells #[.int .i64 (N : Int), .slice ga ps.length gc] 24)) = w3 at *
  generalize w2.heap.size = G at *
  obtain ⟨x0, x1⟩ := And.intro (cell_two0 HX3.out) (cell_two1 HX3.out)
  have lx := lt_of_block HX3.out
  go_wp2_with fail
  refine (uLabel_any N ga gc ps w3 HP3.out HOK.out (by have := HPL.out; omega)).mono ?_
  rintro e w4 ⟨L, lab, rk, rfl, hl, hsp, hb4⟩
  have HSP := hidIt hsp
  have HLL := hidIt hsp.ll
  have HL4 := hidIt hl
  have HP4 := hidIt (HP3.out.below hb4)
  have HX4 := hidIt (blk_kept2 HX3.out hb4)
  have HB4 := hidIt (HB3.out.trans (Below.mono hb4 HB3.out.size))
  clear hl hsp hb4 HP3 HX3 HB3 x0 x1 lx
  obtain ⟨x0, x1⟩ := And.intro (cell_two0 HX4.out) (cell_two1 HX4.out)
  have lx := lt_of_block HX4.out
  have HCR : Hid (Calls Tryd.prog 21 #[.agg #[.int .i64 (N : Int), .slice ga ps.length gc]] w4 fun e w' => ∃ v', e = .returned (.agg #[.int .i64 (N : Int), v']) ∧ PairsAt w' v' (revL N ps) ∧ Below w4.heap.size w4 w') := by
    have h := gReverse_any (N : Int) _ ps w4 HP4.out HPL.out
    have e : rvL (N : Int) ps = revL N ps := by unfold rvL; rw [vN_of HOK.out, vL_of HOK.out]; rfl
    rw [e, vN_of HOK.out] at h
    exact h
  have HRO := hidIt (rev_ok HOK.out)
  have HCLO := hidIt (reach_cl HOK.out)
  have HRL : Hid ((revL N ps).length ≤ 1000) := by show _ ≤ _; rw [revL_len N ps HOK.out]; exact HPL.out
  go_wp2_with fail
  refine HCR.out.mono ?_
  rintro e w5 ⟨hv, rfl, hhp, hb5⟩
  generalize hRR : revL N ps = R at *
  obtain ⟨ha, hc, rfl, -⟩ := hhp.form
  have HHP := hidIt hhp
  have HL5 := hidIt (blk_kept2 HL4.out hb5)
  have HP5 := hidIt (HP4.out.below hb5)
  have HX5 := hidIt (blk_kept2 HX4.out hb5)
  have HB5 := hidIt (HB4.out.trans (Below.mono hb5 HB4.out.size))
  clear hhp hb5 HP4 HX4 HB4 HL4 HCR hRR x0 x1 lx
  have hgr := bgrow w5 (.cells #[.int .i64 (N : Int), .slice ha R.length hc] 24)
  have HY6 := hidIt (heap_alloc_new w5 (.cells #[.int .i64 (N : Int), .slice ha R.length hc] 24))
  have HH6 := hidIt (HHP.out.below hgr)
  have HL6 : Hid (IR _ L lab) := blk_kept2 HL5.out hgr
  have HP6 := hidIt (HP5.out.below hgr)
  have HX6 := hidIt (blk_kept2 HX5.out hgr)
  have HB6 := hidIt (HB5.out.trans (Below.mono hgr HB5.out.size))
  clear hgr HHP HL5 HP5 HX5 HB5
  go_upto_region 7 with (fail)
  generalize (w5.alloc (.cells #[.int .i64 (N : Int), .slice ha R.length hc] 24)) = w6 at *
  generalize w5.heap.size = G2 at *
  have HT6 := hidIt (HT.out.go HB6.out)
  go_wp2_with fail
  go_loopw [7, 8, 9, 10, 11, 45] (fun v7 _ _ _ _ _ wr => ∃ i : Nat, i ≤ N ∧ v7 = .int .i64 i ∧ Hid (Below w6.heap.size w6 wr)) (fun v7 _ _ _ _ _ _ => N - (intOf v7).toNat)
  case atStart => exact ⟨0, Nat.zero_le _, (by first | rfl | trivial), Below.refl _ _⟩
  case round =>
    obtain ⟨i, hi, rfl, HBr⟩ := hrel
    have hi0 : (0 : Int) ≤ (i : Int) := by omega
    have HXr := hidIt (blk_kept2 HX6.out HBr.out)
    obtain ⟨x0, x1⟩ := And.intro (cell_two0 HXr.out) (cell_two1 HXr.out)
    have lx := lt_of_block HXr.out
    by_cases hlt : i < N
    · have hiI : (i : Int) < (N : Int) := by omega
      have HYr := hidIt (blk_kept2 HY6.out HBr.out)
      obtain ⟨y0, y1⟩ := And.intro (cell_two0 HYr.out) (cell_two1 HYr.out)
      have ly := lt_of_block HYr.out
      have HCQ := gReach_any (N : Int) _ R (i : Int) wr (HH6.out.below HBr.out) HRL.out (HT6.out.go HBr.out)
      rw [vN_of HRO.out, vL_of HRO.out, reachL_eq hlt] at HCQ
      have HASC := hidIt (reach_asc N R i)
      have HCL := hidIt (HCLO.out i)
      have hMN : (reachN N R i).length ≤ N := nodup_lt_len N _ (HASC.out.up.imp fun {a b} h => by omega) HASC.out.lt
      have HIO := hidIt (ind_ok (by omega) HOK.out HASC.out (by omega))
      have HGP := hidIt (gs_part (by omega) HOK.out HSP.out HASC.out HCL.out)
      have HIS : Hid ((indL (N : Int) ps (ints (reachN N R i))).length ≤ 1000) := Nat.le_trans (ind_short _ _ _) HPL.out
      have HIN := hidIt (ind_N (by omega) HASC.out)
      have HC1 := hidIt HCQ
      clear HCQ HCL HYr
      generalize hrr : reachN N R i = r at *
      clear hrr
      generalize hqq : indL (N : Int) ps (ints r) = Q at *
      have HQQ := hidIt hqq
      clear hqq
      go_wp2_with fail
      refine HC1.out.mono ?_
      rintro e w7 ⟨v7, rfl, hi7, hb7⟩
      have HI7 := hidIt hi7
      have HB7 := hidIt (HBr.out.trans (Below.mono hb7 HBr.out.size))
      obtain ⟨va, vc, rfl, -⟩ := hi7.ic
      clear hi7 hb7 HC1 x0 x1 lx y0 y1 ly HXr HBr
      have HX7 := hidIt (blk_kept2 HX6.out HB7.out)
      obtain ⟨x0, x1⟩ := And.intro (cell_two0 HX7.out) (cell_two1 HX7.out)
      have lx := lt_of_block HX7.out
      have HC2 : Hid (Calls Tryd.prog 13 #[.agg #[.int .i64 (N : Int), .slice ga ps.length gc], .slice va (ints r).length vc] w7 fun e w' => ∃ a c, e = .returned (.agg #[.int .i64 (r.length : Int), .slice a Q.length c]) ∧ PairsAt w' (.slice a Q.length c) Q ∧ Below w7.heap.size w7 w') := by
        refine (gInduced_any (N : Int) _ _ ps (ints r) w7 (HP6.out.below HB7.out) HPL.out HI7.out (by rw [ints_len]; omega)).mono ?_
        rintro e w' ⟨v', rfl, ho, hb⟩
        rw [vN_of HOK.out, vL_of HOK.out, HQQ.out] at ho
        obtain ⟨a, c, rfl, -⟩ := ho.lits.form
        refine ⟨a, c, ?_, ho.lits, hb⟩
        rw [vN_of HOK.out, HIN.out]
      rw [ints_len] at *
      generalize hM : r.length = M at *
      have HM := hidIt hM
      clear hM
      go_wp2_with fail
      refine HC2.out.mono ?_
      rintro e w8 ⟨a8, c8, rfl, hp8, hb8⟩
      have HP8 := hidIt hp8
      have HB8 := hidIt (HB7.out.trans (Below.mono hb8 HB7.out.size))
      have HI8 := hidIt (HI7.out.below hb8)
      clear hp8 hb8 HC2 x0 x1 lx HX7 HB7 HI7
      go_wp2_with fail
      refine (uLabel_any M a8 c8 Q w8 HP8.out HIO.out (by have := HIS.out; omega)).mono ?_
      rintro e w9 ⟨L2, lab2, rk2, rfl, hl9, hs9, hb9⟩
      obtain ⟨rfl, -⟩ := GSpec.uniq HIO.out.ix hs9 HGP.out
      have HL9 := hidIt hl9
      have HB9 := hidIt (HB8.out.trans (Below.mono hb9 HB8.out.size))
      have HI9 := hidIt (HI8.out.below hb9)
      obtain ⟨va', vc', hve, hic9⟩ := HI9.out.ic
      injection hve with hve1 hve2 hve3
      subst hve1
      have HIC := hidIt hic9
      have hM2 := HM.out
      clear hl9 hs9 hb9 hve2 hve3 hic9 HB8 HI8 HI9 HP8
      go_wp2_with fail
      go_loopw [10, 11, 45] (fun _ _ v45 wr => ∃ q : Nat, q ≤ M ∧ v45 = .int .i64 q ∧ Hid (Below w9.heap.size w9 wr)) (fun _ _ v45 _ => M - (intOf v45).toNat)
      case atStart => exact ⟨0, Nat.zero_le _, (by first | rfl | trivial), Below.refl _ _⟩
      case round =>
        obtain ⟨q, hq, rfl, HBq⟩ := hrel
        have hq0 : (0 : Int) ≤ (q : Int) := by omega
        by_cases hqM : q < M
        · have hqI : (q : Int) < (M : Int) := by omega
          have hqr : q < r.length := by omega
          obtain ⟨b1, o1, rfl, l1, hc1⟩ := (HIC.out.go HBq.out).at_ (k := q) (by rw [ints_len]; exact hqr)
          have p0 := hc1 q (by rw [ints_len]; exact hqr)
          rw [ints_at hqr] at p0
          have hxN : r[q] < N := HASC.out.lt _ (List.getElem_mem hqr)
          have cY := (HL9.out.go2 HBq.out).cell (i := q) (by rw [List.length_map]; exact hqr)
          rw [List.getElem_map] at cY
          generalize r[q] = x at *
          have cL := (HL6.out.go2 (HB9.out.trans (Below.mono HBq.out HB9.out.size))).cell (i := x) (by have := HLL.out; omega)
          rw [getD_at (by have := HLL.out; omega)] at cY
          generalize lab[x]'(by have := HLL.out; omega) = z at *
          have hx0 : ¬ (x : Int) < 0 := by omega
          have hx0' : (0 : Int) ≤ (x : Int) := by omega
          have hxI : (x : Int) < (N : Int) := by omega
          have hxI2 : ¬ (N : Int) ≤ (x : Int) := by omega
          have hzz : (z != z) = false := bne_self_eq_false _
          have HXq := hidIt (blk_kept2 HX6.out (HB9.out.trans (Below.mono HBq.out HB9.out.size)))
          obtain ⟨x0, x1⟩ := And.intro (cell_two0 HXq.out) (cell_two1 HXq.out)
          have lx := lt_of_block HXq.out
          have lL := lt_of_block (HL6.out.go2 (HB9.out.trans (Below.mono HBq.out HB9.out.size)))
          have lY := lt_of_block (HL9.out.go2 HBq.out)
          clear hc1 HXq
          go_wp2_with fail
          go_quiet (fail)
          have HBn := hidIt (HBq.out.trans (below_drewNL _ nq _))
          go_wp2_with fail
          go_roundw
          case rel => exact ⟨q + 1, by omega, by go_num, HBn.out⟩
          case measure => simp [intOf]; omega
        · obtain rfl : q = M := by omega
          have hqI : ¬ (q : Int) < (q : Int) := by omega
          have HBn := hidIt (HB9.out.trans (Below.mono HBq.out HB9.out.size))
          go_wp2_with fail
          go_roundw
          case rel => exact ⟨i + 1, by omega, by go_num, HBn.out⟩
          case measure => simp [intOf]; omega
    · obtain rfl : i = N := by omega
      have hiI : ¬ (i : Int) < (i : Int) := by omega
      have HTE := hidIt (HT6.out.go HBr.out)
      go_wp2_with fail
      refine (awake12_any _).mono ?_
      rintro e w30 ⟨rfl, hb⟩
      have HBF := hidIt ((HB6.out.trans (Below.mono HBr.out HB6.out.size)).trans (Below.mono hb (Nat.le_trans HB6.out.size HBr.out.size)))
      clear hb
      go_wp2_with fail
      go_ret
      exact ⟨rfl, HBF.out⟩
end Go.Proofs.YtcelijjohcfhkaaDoor
