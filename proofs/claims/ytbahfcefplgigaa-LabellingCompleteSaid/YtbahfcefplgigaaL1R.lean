/- The law LabellingSets: for any two lists, any label and every list of numbers it answers true. -/
import Derived.Test.YtbahfcefplgigaaL1Q
namespace Go.Proofs.Ytbahfcefplgigaa
set_option linter.unusedVariables false
set_option linter.unusedSimpArgs false
open Go Go.RowKit Go.Sort

set_option maxRecDepth 100000 in
set_option maxHeartbeats 4000000 in
theorem sets_walk (v1 : Value) (raw : List Int) (v2 : Value) (set : List Int) (label : Int) (lv : Value) (zs : List Int) (w : World) (h1 : IL w v1 raw) (h2 : IL w v2 set) (hlab : -9223372036854775808 ≤ label ∧ label ≤ 9223372036854775807) (hz : IntsAt w w.heap.size lv zs) :
    Calls Try.prog 4 #[v1, v2, .int .i64 label, lv] w fun e w' => e = .returned (.bool true) ∧ Below w.heap.size w w' := by
  have HZ := hidIt hz
  have H1 := hidIt h1.r
  have H2 := hidIt h2.r
  obtain ⟨ra, rc, rfl, -⟩ := h1.form
  obtain ⟨sa, sc, rfl, -⟩ := h2.form
  clear hz h1 h2
  by_cases la : 60 < raw.length
  · have la' : (60 : Int) < (raw.length : Int) := by omega
    go_enter Try.func4, Try.ntmps4
    go_wp2_with fail
    go_ret
    exact ⟨rfl, Below.refl _ _⟩
  have la' : ¬ (60 : Int) < (raw.length : Int) := by omega
  by_cases lb : 60 < set.length
  · have lb' : (60 : Int) < (set.length : Int) := by omega
    go_enter Try.func4, Try.ntmps4
    go_wp2_with fail
    go_ret
    exact ⟨rfl, Below.refl _ _⟩
  have lb' : ¬ (60 : Int) < (set.length : Int) := by omega
  have HLR : Hid (raw.length ≤ 60) := by show _ ≤ _; omega
  have HLS : Hid (set.length ≤ 60) := by show _ ≤ _; omega
  clear la lb
  go_enter Try.func4, Try.ntmps4
  go_wp2_with fail
  clear la' lb'
  refine (new_any lv zs w.heap.size w HZ.out (Nat.le_refl _)).mono ?_
  rintro e w1 ⟨zs', rfl, hs1, o1, rfl⟩
  have HS1 := hidIt hs1
  have HB1 := hidIt (bgrow w o1)
  have HR1 := hidIt (H1.out.go HB1.out)
  have HT1 := hidIt (H2.out.go HB1.out)
  have hsz1 : w.heap.size < (w.alloc o1).heap.size := hs1.lt
  clear hs1
  generalize w.alloc o1 = w1 at *
  go_wp2_with fail
  refine (kGraph_any 8 (by decide) _ _ _ _ w1 HS1.out).mono ?_
  rintro e w2 ⟨N, ps, ga, gc, k2, rfl, hN, hok, hpl, hop, hs2, hg2⟩
  have HOK := hidIt hok
  have HPS := hidIt hpl
  have hgr := bgrow w2 (.cells #[.int .i64 (N : Int), .slice ga ps.length gc] 27)
  have HO3 := hidIt (hop.r.go hgr)
  have HR3 := hidIt ((HR1.out.keep hg2 (fun q e => by injection e with e; omega)).go hgr)
  have HT3 := hidIt ((HT1.out.keep hg2 (fun q e => by injection e with e; omega)).go hgr)
  have HS3 := hidIt (hs2.alloc (.cells #[.int .i64 (N : Int), .slice ga ps.length gc] 27))
  have HX3 := hidIt (heap_alloc_new w2 (.cells #[.int .i64 (N : Int), .slice ga ps.length gc] 27))
  have HB2 := hidIt (below_read HB1.out hg2 (Nat.le_of_lt hsz1))
  have HB3 := hidIt (HB2.out.trans (Below.mono hgr HB2.out.size))
  have hG : w.heap.size < w2.heap.size := Nat.lt_of_lt_of_le hsz1 hg2.size
  clear hok hpl hop hs2 hg2 hgr HB2 HS1 HB1 HR1 HT1
  go_upto_region 5 with (fail)
  generalize hw3 : (w2.alloc (.cells #[.int .i64 (N : Int), .slice ga ps.length gc] 27)) = w3 at *
  have hsz3 : w.heap.size < w3.heap.size := by rw [← hw3, World.size_alloc]; omega
  have hGsz : w2.heap.size < w3.heap.size := by rw [← hw3, World.size_alloc]; omega
  clear hw3
  generalize w2.heap.size = G at *
  go_wp2_with fail
  refine (kLabels_any 8 (by decide) _ _ _ _ w3 HS3.out).mono ?_
  rintro e w4 ⟨lab, aa, ac, k4, rfl, hgl, -, hoa, hs4, hg4⟩
  have HGL := hidIt hgl
  have HA4 := hidIt hoa.il
  have HR4 := hidIt (HR3.out.keep hg4 (fun q e => by injection e with e; omega)).il
  have hgr := bgrow w4 (.cells #[.slice ra raw.length rc, .slice aa 8 ac] 22)
  have HLL : Hid (LL (w4.alloc (.cells #[.slice ra raw.length rc, .slice aa 8 ac] 22)) (.slice (some ⟨w4.heap.size, 0, none⟩) 2 2) [raw, lab]) :=
    ll_blk (zss := [raw, lab]) (heap_alloc_new w4 _) rfl (Nat.le_refl 2) (by decide) (fun i h1 h2 => by
      match i, h1 with
      | 0, _ => exact HR4.out.below hgr
      | 1, _ => exact HA4.out.below hgr)
  have HSH : Hid (Sh [raw, lab]) := fun i h => by
    match i, h with
    | 0, _ => exact HLR.out
    | 1, _ => show lab.length ≤ 60; have := HGL.out; omega
  have HS5 := hidIt (hs4.alloc (.cells #[.slice ra raw.length rc, .slice aa 8 ac] 22))
  have HT5 := hidIt ((HT3.out.keep hg4 (fun q e => by injection e with e; omega)).go hgr)
  have HO5 := hidIt ((HO3.out.keep hg4 (fun q e => by injection e with e; omega)).go hgr)
  have HX5 := hidIt (blk_kept2 (blk_keep HX3.out hg4 (fun q e => by injection e with e; omega)) hgr)
  have HB4 := hidIt (below_read HB3.out hg4 (Nat.le_of_lt hsz3))
  have HB5 := hidIt (HB4.out.trans (Below.mono hgr HB4.out.size))
  have hsz5 : w3.heap.size ≤ (w4.alloc (.cells #[.slice ra raw.length rc, .slice aa 8 ac] 22)).heap.size := Nat.le_trans hg4.size hgr.size
  clear hgl hoa hs4 hg4 hgr HA4 HR4 HR3 HT3 HO3 HX3 HS3 HB3 HB4 HGL
  go_upto_region 6 with (fail)
  generalize (w4.alloc (.cells #[.slice ra raw.length rc, .slice aa 8 ac] 22)) = w5 at *
  generalize w4.heap.size = Z at *
  generalize [raw, lab] = pss at *
  obtain ⟨ld, lcap, hle, hll⟩ := HLL.out.form
  injection hle with hle1 hle2 hle3
  subst hle1 hle3
  have HPL : Hid (2 = pss.length) := hle2
  have HLC := hidIt hll
  clear hle2 hll HLL
  go_loopw [12, 14, 34, 41] (fun _ _ i _ wr => ∃ k : Nat, k ≤ 2 ∧ i = .int .i64 k ∧ Hid (Below w5.heap.size w5 wr)) (fun _ _ i _ _ => 2 - (intOf i).toNat)
  case atStart => exact ⟨0, Nat.zero_le _, (by first | rfl | trivial), Below.refl _ _⟩
  case round =>
    obtain ⟨k, hk, rfl, HB⟩ := hrel
    have hkI0 : (0 : Int) ≤ (k : Int) := by omega
    by_cases hlt : k < 2
    · have hkI : (k : Int) < 2 := by omega
      have hkp : k < pss.length := by have := HPL.out; omega
      obtain ⟨gb, go, u, hgu, lu, cu, iu⟩ := HLC.out k hkp
      injection hgu with hgu
      injection hgu with hgu1 hgu2
      subst hgu1 hgu2
      have cu2 := (Below.cell (p := ⟨Z, 0 + k, none⟩) HB.out lu).trans cu
      rw [Nat.zero_add] at cu2
      have lu2 := Nat.lt_of_lt_of_le lu HB.out.size
      have HPP := hidIt (iu.below HB.out)
      have HPQ := hidIt (HSH.out k hkp)
      generalize pss[k] = p at *
      obtain ⟨pa, pc, rfl, -⟩ := HPP.out.form
      clear cu lu iu hkp
      have hgr := bgrow wr (.cells #[.int .i64 label, .int .i64 1, .int .i64 2, .int .i64 3] 3)
      have HI6 : Hid (IR (wr.alloc (.cells #[.int .i64 label, .int .i64 1, .int .i64 2, .int .i64 3] 3)) wr.heap.size [label, 1, 2, 3]) := heap_alloc_new wr _
      have HP6 := hidIt (HPP.out.below hgr)
      have HB6 := hidIt (HB.out.trans (Below.mono hgr HB.out.size))
      clear hgr HPP HB
      go_upto_region 9 with (fail)
      generalize (wr.alloc (.cells #[.int .i64 label, .int .i64 1, .int .i64 2, .int .i64 3] 3)) = w6 at *
      generalize wr.heap.size = Q at *
      clear cu2 lu2
      go_loopw [14, 41] (fun _ i wx => ∃ j : Nat, j ≤ 4 ∧ i = .int .i64 j ∧ Hid (Below w6.heap.size w6 wx)) (fun _ i _ => 4 - (intOf i).toNat)
      case atStart => exact ⟨0, Nat.zero_le _, (by first | rfl | trivial), Below.refl _ _⟩
      case round =>
        obtain ⟨j, hj, rfl, HB⟩ := hrel
        have hjI0 : (0 : Int) ≤ (j : Int) := by omega
        by_cases hlt2 : j < 4
        · have hjI : (j : Int) < 4 := by omega
          have hir := HI6.out.go HB.out
          obtain ⟨x, cx⟩ := hir.ex (i := j) (by show j < 4; exact hlt2)
          have lq := hir.lt
          have HPx := hidIt (HP6.out.below HB.out)
          have HLP : Hid (p.length ≤ 100000) := by show _ ≤ _; have := HPQ.out; omega
          clear hir
          go_wp2_with fail
          refine (lWith_any _ p x _ HPx.out HLP.out).mono ?_
          rintro e w7 ⟨a7, c7, rfl, ho7, hb7⟩
          have HI7 := hidIt ho7.il
          have HB7 := hidIt (HB.out.trans (Below.mono hb7 HB.out.size))
          have HPy := hidIt (HPx.out.below hb7)
          clear ho7 hb7
          go_wp2_with fail
          refine (rlWith_any _ p x _ HPy.out HLP.out).mono ?_
          rintro e w8 ⟨a8, c8, rfl, ho8, hb8⟩
          have HI8 := hidIt ho8.il
          have HI78 := hidIt (HI7.out.below hb8)
          have HB8 := hidIt (HB7.out.trans (Below.mono hb8 HB7.out.size))
          have HWL : Hid ((ints (withF p x)).length ≤ 1000000) := by
            show _ ≤ _
            rw [ints_len]
            have h1 := withTo_len p x p.length
            have h2 : withF p x = withTo p x p.length := rfl
            rw [h2]
            have := HPQ.out
            omega
          clear ho8 hb8
          generalize ints (withF p x) = is_ at *
          generalize (withF p x).length = il_ at *
          go_wp2_with fail
          refine (kInts_any _ _ is_ is_ _ HI78.out HI8.out HWL.out HWL.out).mono ?_
          rw [decide_eq_true rfl]
          rintro e w9 ⟨rfl, hb9⟩
          have HB9 := hidIt (HB8.out.trans (Below.mono hb9 HB8.out.size))
          clear hb9
          go_wp2_with fail
          go_roundw
          case rel => exact ⟨j + 1, by omega, by go_num, HB9.out⟩
          case measure => simp [intOf]; omega
        · obtain rfl : j = 4 := by omega
          have HBZ := hidIt (HB6.out.trans (Below.mono HB.out HB6.out.size))
          go_wp2_with fail
          go_roundw
          case rel => exact ⟨k + 1, by omega, by go_num, HBZ.out⟩
          case measure => simp [intOf]; omega
    · obtain rfl : k = 2 := by omega
      have HS6 := hidIt (HS5.out.grow (only_of_below HB.out none))
      have HT6 := hidIt (HT5.out.go HB.out)
      have HO6 := hidIt (HO5.out.go HB.out)
      have HX6 := hidIt (blk_kept2 HX5.out HB.out)
      have HB6 := hidIt (HB5.out.trans (Below.mono HB.out HB5.out.size))
      have hsz6 : w3.heap.size ≤ wr.heap.size := Nat.le_trans hsz5 HB.out.size
      clear HB HS5 HT5 HO5 HX5 HB5 HLC HSH HPL
      go_upto_region 15 with (fail)
      have HSa : Hid (SrcAt wr.drew _ _ _ _) := HS6.out.drewN 1
      have HTa : Hid (ILr _ _ wr.drew _ _) := HT6.out.go (below_drewN9 (Below.refl wr.heap.size wr) 1)
      have HOa : Hid (PRr _ _ wr.drew _ _) := HO6.out.go (below_drewN9 (Below.refl wr.heap.size wr) 1)
      have HXa : Hid (wr.drew.heap[G]? = some (.cells #[.int .i64 (N : Int), .slice ga ps.length gc] 27 (0, 0))) := HX6.out
      have HBa : Hid (Below w.heap.size w wr.drew) := ⟨HB6.out.os, HB6.out.tape, HB6.out.output, HB6.out.size, HB6.out.block⟩
      have hsza : w3.heap.size ≤ wr.drew.heap.size := hsz6
      have hszw : w.heap.size ≤ wr.drew.heap.size := by omega
      obtain ⟨x0, x1⟩ := And.intro (cell_two0 HXa.out) (cell_two1 HXa.out)
      have lx := lt_of_block HXa.out
      clear HS6 HT6 HO6 HX6 HB6
      go_region_law (first
        | (go_simp; go_at_call 23; refine (kPart_any N (by omega) _ _ _ _ _ HSa.out).mono ?_; rintro e w7 ⟨p1, a1, c1, k7, rfl, has1, hl1, ho1, hs7, hg7⟩
           have HSb := hidIt hs7
           have HT7 := hidIt (HTa.out.keep hg7 (fun q e => by injection e with e; omega))
           have HO7 := hidIt (HOa.out.keep hg7 (fun q e => by injection e with e; omega))
           have HX7 := hidIt (blk_keep HXa.out hg7 (fun q e => by injection e with e; omega))
           have HB7 := hidIt (below_read HBa.out hg7 hszw)
           have HP7 := hidIt ho1.r
           have hsz7 : wr.drew.heap.size ≤ w7.heap.size := hg7.size
           have y0 := cell_two0 HX7.out
           have ly := lt_of_block HX7.out
           clear HSa hs7 hg7 ho1)
        | (go_simp; go_at_call 23; refine (kPart_any N (by omega) _ _ _ _ _ HSb.out).mono ?_; rintro e w8 ⟨p2, a2, c2, k8, rfl, has2, hl2, ho2, hs8, hg8⟩
           have HSc := hidIt hs8
           have HT8 := hidIt (HT7.out.keep hg8 (fun q e => by injection e with e; omega))
           have HO8 := hidIt (HO7.out.keep hg8 (fun q e => by injection e with e; omega))
           have HX8 := hidIt (blk_keep HX7.out hg8 (fun q e => by injection e with e; omega))
           have HB8 := hidIt (below_read HB7.out hg8 (by omega))
           have HP8 := hidIt (HP7.out.keep hg8 (fun q e => by injection e with e; omega))
           have HQ8 := hidIt ho2
           have hsz8 : w7.heap.size ≤ w8.heap.size := hg8.size
           clear HSb hs8 hg8 ho2 y0 ly HT7 HO7 HX7 HB7 HP7)
        | (go_simp; go_at_call 12; refine (sn_nat 12 (by decide) (by decide) _ _ _ _ _ HSc.out).mono ?_; rintro e w9 ⟨z, k9, rfl, hz9, hs9, hg9⟩
           have hwz : IntKind.i64.wrap ((z : Int) - 2) = (z : Int) - 2 := IntWalk.i64_in _ (by omega)
           have hgr9 := bgrow w9 (.cells #[.int .i64 ((z : Int) - 2)] 3)
           have HT9 := hidIt ((HT8.out.keep hg9 (fun q e => by injection e with e; omega)).go hgr9)
           have HO9 := hidIt ((HO8.out.keep hg9 (fun q e => by injection e with e; omega)).go hgr9)
           have HX9 := hidIt (blk_kept2 (blk_keep HX8.out hg9 (fun q e => by injection e with e; omega)) hgr9)
           have HB9' := hidIt (below_read HB8.out hg9 (by omega))
           have HB9 := hidIt (HB9'.out.trans (Below.mono hgr9 HB9'.out.size))
           have HP9 := hidIt ((HP8.out.keep hg9 (fun q e => by injection e with e; omega)).go hgr9)
           have HQ9 := hidIt (HQ8.out.read hg9 (by omega))
           have HN9 := hidIt (HQ9.out.news (ints_len p2) (.cells #[.int .i64 ((z : Int) - 2)] 3))
           have hsz9 : w8.heap.size ≤ (w9.alloc (.cells #[.int .i64 ((z : Int) - 2)] 3)).heap.size := Nat.le_trans hg9.size hgr9.size
           have hb9 : w7.heap.size ≤ (w9.alloc (.cells #[.int .i64 ((z : Int) - 2)] 3)).heap.size := Nat.le_trans hsz8 hsz9
           clear HSc hs9 hg9 hgr9 hz9 HT8 HO8 HX8 HB8 HP8 HQ8 HQ9 HB9')
        | (refine step_append_one rfl (.tmp 63) (.tmp 67) elemI rfl w7.heap.size (.slice a2 p2.length c2) p2.length _ (by go_simp) HN9.out _ 1 (by go_simp) #[.int .i64 ((z : Int) - 2)] 3 (heap_alloc_new _ _) rfl (one_of (by rfl)) (by omega) hb9 ?_
           intro v10 w10 hown10 hg10 hbl10
           obtain ⟨g10, c10, rfl, -⟩ := owns_slice hown10))
      all_goals (
        go_simp
        have hOB : ∀ q, (Value.slice a2 p2.length c2).ownBlock = some q → w7.heap.size ≤ q := fun q e => (owns_blk HN9.out q e).1
        have HQ10 := hidIt (OwnI.done (ints_len p2) hown10).il
        have hgrA := bgrow w10 (.cells #[.slice sa set.length sc, .slice a1 p1.length c1, .slice (some ⟨g10, 0, none⟩) (p2.length + 1) c10] 22)
        have HT11 := hidIt ((HT9.out.keep hg10 (fun q e => by have := hOB q e; omega)).go hgrA).il
        have HP11 := hidIt ((HP9.out.keep hg10 (fun q e => by have := hOB q e; omega)).go hgrA).il
        have HO11 := hidIt ((HO9.out.keep hg10 (fun q e => by have := hOB q e; omega)).go hgrA).at_
        have HX11 := hidIt (blk_kept2 (blk_keep HX9.out hg10 (fun q e => by have := hOB q e; omega)) hgrA)
        have HQ11 := hidIt (HQ10.out.below hgrA)
        have HB10 := hidIt (below_app5 HB9.out hg10 (fun q e => by have := hOB q e; omega) (by omega))
        have HB11 := hidIt (HB10.out.trans (Below.mono hgrA HB10.out.size))
        have HLL : Hid (LL (w10.alloc (.cells #[.slice sa set.length sc, .slice a1 p1.length c1, .slice (some ⟨g10, 0, none⟩) (p2.length + 1) c10] 22)) (.slice (some ⟨w10.heap.size, 0, none⟩) 3 3) [set, ints p1, ints p2 ++ [(z : Int) - 2]]) :=
          ll_blk (zss := [set, ints p1, ints p2 ++ [(z : Int) - 2]]) (heap_alloc_new w10 _) rfl (Nat.le_refl 3) (by decide) (fun i h1 h2 => by
            match i, h1 with
            | 0, _ => exact HT11.out
            | 1, _ => exact HP11.out
            | 2, _ => exact HQ11.out)
        have HSH : Hid (Sh [set, ints p1, ints p2 ++ [(z : Int) - 2]]) := fun i h => by
          match i, h with
          | 0, _ => exact HLS.out
          | 1, _ => show (ints p1).length ≤ 60; rw [ints_len]; omega
          | 2, _ => show (ints p2 ++ [(z : Int) - 2]).length ≤ 60; rw [List.length_append, ints_len]; show p2.length + 1 ≤ 60; omega
        clear hown10 hg10 hbl10 hOB hgrA HT9 HP9 HO9 HX9 HB9 HN9 HQ10 HB10 HT11 HP11 HQ11 hwz hb9 hsz9 hsz8 hsz7 has1 has2 hl1 hl2
        go_upto_region 16 with (fail)
        generalize (w10.alloc (.cells #[.slice sa set.length sc, .slice a1 p1.length c1, .slice (some ⟨g10, 0, none⟩) (p2.length + 1) c10] 22)) = w11 at *
        generalize w10.heap.size = Y at *
        generalize [set, ints p1, ints p2 ++ [(z : Int) - 2]] = qss at *
        obtain ⟨le, lcaq, hle, hll⟩ := HLL.out.form
        injection hle with hle1 hle2 hle3
        subst hle1 hle3
        have HPL : Hid (3 = qss.length) := hle2
        have HLC := hidIt hll
        clear hle2 hll HLL
        go_loopw [16, 71] (fun _ i wr => ∃ k : Nat, k ≤ 3 ∧ i = .int .i64 k ∧ Hid (Below w11.heap.size w11 wr)) (fun _ i _ => 3 - (intOf i).toNat)
        case atStart => exact ⟨0, Nat.zero_le _, (by first | rfl | trivial), Below.refl _ _⟩
        case round =>
          obtain ⟨k, hk, rfl, HB⟩ := hrel
          have hkI0 : (0 : Int) ≤ (k : Int) := by omega
          by_cases hlt : k < 3
          · have hkI : (k : Int) < 3 := by omega
            have hkp : k < qss.length := by have := HPL.out; omega
            obtain ⟨gb, go, u, hgu, lu, cu, iu⟩ := HLC.out k hkp
            injection hgu with hgu
            injection hgu with hgu1 hgu2
            subst hgu1 hgu2
            have cu2 := (Below.cell (p := ⟨Y, 0 + k, none⟩) HB.out lu).trans cu
            rw [Nat.zero_add] at cu2
            have lu2 := Nat.lt_of_lt_of_le lu HB.out.size
            have HPP := hidIt (iu.below HB.out)
            have HPQ := hidIt (HSH.out k hkp)
            generalize qss[k] = p at *
            obtain ⟨pa, pc, rfl, -⟩ := HPP.out.form
            clear cu lu iu hkp
            have HXr := hidIt (blk_kept2 HX11.out HB.out)
            have HOr := hidIt (HO11.out.below HB.out)
            obtain ⟨x0, x1⟩ := And.intro (cell_two0 HXr.out) (cell_two1 HXr.out)
            have lx := lt_of_block HXr.out
            have LP : p.length ≤ 1000 := by have := HPQ.out; omega
            have HFL : Hid ((fsF N ps p).length = N) := fsF_len N ps p
            have CF1 : Hid (∀ wx, Ext wr wx → Calls Try.prog 24 #[.agg #[.int .i64 (N : Int), .slice ga ps.length gc], .slice pa p.length pc] wx fun e w'' => ∃ u, e = .returned u ∧ Ext wr w'' ∧ Grows wx w'' ∧ isL N (fsF N ps p) u w'') := fun wx hC => rel_call hC ((lFromSet_any N _ _ ps p wx (HOr.out.below hC) HOK.out HPS.out (HPP.out.below hC) LP).mono fun e w'' ⟨b, h1, _, h2, h3⟩ => ⟨_, h1, ⟨some ⟨b, 0, none⟩, N, rfl, (by
              have h := h2.il (c := N) (by rw [HFL.out]; exact Nat.le_refl _) (by unfold maxLen; omega)
              rw [HFL.out] at h
              exact h)⟩, h3⟩)
            have CF2 : Hid (∀ wx, Ext wr wx → Calls Try.prog 25 #[.agg #[.int .i64 (N : Int), .slice ga ps.length gc], .slice pa p.length pc] wx fun e w'' => ∃ u, e = .returned u ∧ Ext wr w'' ∧ Grows wx w'' ∧ isL N (fsF N ps p) u w'') := fun wx hC => rel_call hC ((rlFromSet_any N _ _ ps p wx (HOr.out.below hC) HOK.out HPS.out (HPP.out.below hC) LP).mono fun e w'' ⟨a, c, h1, h2, h3⟩ => ⟨_, h1, ⟨a, c, rfl, h2.il⟩, h3⟩)
            have HIN : Hid ((fsF N ps p).length ≤ 1000000) := by show _ ≤ _; rw [HFL.out]; omega
            have CK : Hid (∀ wx a1 c1 a2 c2, Ext wr wx → IL wx (.slice a1 N c1) (fsF N ps p) → IL wx (.slice a2 N c2) (fsF N ps p) → Calls Try.prog 15 #[.slice a1 N c1, .slice a2 N c2] wx fun e w'' => ∃ u, e = .returned u ∧ Ext wr w'' ∧ Grows wx w'' ∧ isB true u w'') := fun wx a1 c1 a2 c2 hC h1 h2 => rel_call hC ((kInts_any _ _ _ _ wx h1 h2 HIN.out HIN.out).mono fun e w'' ⟨h3, h4⟩ => ⟨_, h3, (by rw [decide_eq_true rfl]; rfl), h4⟩)
            clear HPP LP HIN HOr HFL
            go_wp2_with fail
            clear cu2 lu2
            generalize fsF N ps p = is_ at *
            have X0 : ∀ wx, Ext wr wx → wx.cell? ⟨G, 0, none⟩ = some (.int .i64 (N : Int)) := fun wx hC => (Below.cell (p := ⟨G, 0, none⟩) hC lx).trans x0
            have X1 : ∀ wx, Ext wr wx → wx.cell? ⟨G, 1, none⟩ = some (.slice ga ps.length gc) := fun wx hC => (Below.cell (p := ⟨G, 1, none⟩) hC lx).trans x1
            haveI := Ext.nonempty wr
            refine wp_region_rel (Ext wr) Grows (relTab [(77, isL N is_), (80, isL N is_), (81, isB true)]) (by kernel_rfl) (by kernel_rfl) (by kernel_rfl) (stable_cons (isL_up _ _) (stable_cons (isL_up _ _) (stable_cons (isB_up _) (stable_nil _)))) (Ext.start wr) ?_
            repeat (
              refine' walkR_plain (by kernel_rfl) rfl rfl (fun wx hC hL => ?_) ?_
              rotate_left
              · (have hlx := Nat.lt_of_lt_of_le lx (Below.size hC)
                 simp only [X0 wx hC, X1 wx hC, hlx, go_sem]; first | done | (go_simp; exact ⟨rfl, rfl⟩))
              simp only [Act.put, List.setIfInBounds_toArray, List.set_cons_zero, List.set_cons_succ])
            refine walkR_rel (by kernel_rfl) rfl rfl (of_decide_eq_true (by kernel_rfl)) (fun wx hC hL => ?_) (fun v hv => ?_)
            · go_simp
              exact CF1.out wx hC
            obtain ⟨_, _, a77, c77, rfl, -⟩ := hv
            simp only [Act.put, List.setIfInBounds_toArray, List.set_cons_zero, List.set_cons_succ]
            repeat (
              refine' walkR_plain (by kernel_rfl) rfl rfl (fun wx hC hL => ?_) ?_
              rotate_left
              · (have hlx := Nat.lt_of_lt_of_le lx (Below.size hC)
                 simp only [X0 wx hC, X1 wx hC, hlx, go_sem]; first | done | (go_simp; exact ⟨rfl, rfl⟩))
              simp only [Act.put, List.setIfInBounds_toArray, List.set_cons_zero, List.set_cons_succ])
            refine walkR_rel (by kernel_rfl) rfl rfl (of_decide_eq_true (by kernel_rfl)) (fun wx hC hL => ?_) (fun v hv => ?_)
            · go_simp
              exact CF2.out wx hC
            obtain ⟨_, _, a80, c80, rfl, -⟩ := hv
            simp only [Act.put, List.setIfInBounds_toArray, List.set_cons_zero, List.set_cons_succ]
            refine walkR_rel (by kernel_rfl) rfl rfl (of_decide_eq_true (by kernel_rfl)) (fun wx hC hL => ?_) (fun v hv => ?_)
            · have h77 : isL N is_ (.slice a77 N c77) wx := hL.get 77 (by simp [more]) (by kernel_rfl) rfl rfl
              have h80 : isL N is_ (.slice a80 N c80) wx := hL.get 80 (by simp [more]) (by kernel_rfl) rfl rfl
              have i77 := hidIt h77.il
              have i80 := hidIt h80.il
              clear h77 h80
              go_simp
              exact CK.out wx a77 c77 a80 c80 hC i77.out i80.out
            obtain ⟨_, _, rfl⟩ := hv
            simp only [Act.put, List.setIfInBounds_toArray, List.set_cons_zero, List.set_cons_succ]
            repeat (
              refine' walkR_plain (by kernel_rfl) rfl rfl (fun wx hC hL => ?_) ?_
              rotate_left
              · (have hlx := Nat.lt_of_lt_of_le lx (Below.size hC)
                 simp only [X0 wx hC, X1 wx hC, hlx, go_sem]; first | done | (go_simp; exact ⟨rfl, rfl⟩))
              simp only [Act.put, List.setIfInBounds_toArray, List.set_cons_zero, List.set_cons_succ])
            refine fun w20 hC20 hK => ?_
            have hb20 : Below wr.heap.size wr w20 := hC20
            have HBZ := hidIt (HB.out.trans (Below.mono hb20 HB.out.size))
            clear hb20 hC20 hK X0 X1 x0 x1 lx
            go_wp2_with fail
            go_roundw
            case rel => exact ⟨k + 1, by omega, by go_num, HBZ.out⟩
            case measure => simp [intOf]; omega
          · obtain rfl : k = 3 := by omega
            go_wp2_with fail
            refine (awake11_any _).mono ?_
            rintro e w30 ⟨rfl, hb⟩
            have HBF := hidIt ((HB11.out.trans (Below.mono HB.out HB11.out.size)).trans (Below.mono hb (Nat.le_trans HB11.out.size HB.out.size)))
            clear hb
            go_wp2_with fail
            go_ret
            exact ⟨rfl, HBF.out⟩)
end Go.Proofs.Ytbahfcefplgigaa
