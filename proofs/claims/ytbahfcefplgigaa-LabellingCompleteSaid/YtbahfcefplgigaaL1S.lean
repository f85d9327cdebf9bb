/- The law LabellingChanges: for every list of numbers it answers true. -/
import Derived.Test.YtbahfcefplgigaaL1R
import Derived.Test.YtbahfcefplgigaaL1T
namespace Go.Proofs.Ytbahfcefplgigaa
set_option linter.unusedVariables false
set_option linter.unusedSimpArgs false
open Go Go.RowKit Go.Sort

theorem mem_illL {N i : Nat} {ps : List (Int × Int)} {l : List Int} (hi : i < N) (hl : l.length = N) (ho : LabOk l) : (i : Int) ∈ ints (illL N ps l) ↔ l.getD i 0 ≠ legL ps l i := by
  have hv : validB N l = true := validB_iff.2 ⟨hl, ho⟩
  unfold illL ints
  rw [if_pos hv, List.mem_map]
  constructor
  · rintro ⟨j, hj, he⟩
    obtain rfl : j = i := Int.ofNat.inj he
    unfold illTo at hj
    exact of_decide_eq_true (List.mem_filter.1 hj).2
  · intro h
    exact ⟨i, List.mem_filter.2 ⟨List.mem_range.2 hi, decide_eq_true h⟩, rfl⟩
theorem cntN_same {ps : List (Int × Int)} {l r : List Int} {i : Nat} (h : ∀ k ∈ inL ps (i : Int), l.getD k.toNat 0 = r.getD k.toNat 0) (x : Nat) : cntN ps l i x = cntN ps r i x := by
  unfold cntN
  congr 1
  apply List.filter_congr
  intro p hp
  by_cases e : p.2 = (i : Int)
  · have hk := h p.1 (by unfold inL; exact List.mem_map.2 ⟨p, List.mem_filter.2 ⟨hp, beq_iff_eq.2 e⟩, rfl⟩)
    rw [hk]
  · rw [beq_eq_false_iff_ne.2 e, Bool.false_and, Bool.false_and]
theorem ill_same {N i : Nat} {ps : List (Int × Int)} {l r : List Int} (hi : i < N) (hl : l.length = N) (ho : LabOk l) (hl2 : r.length = N) (ho2 : LabOk r) (h0 : r.getD i 0 = l.getD i 0) (h : ∀ k ∈ inL ps (i : Int), r.getD k.toNat 0 = l.getD k.toNat 0) :
    decide ((i : Int) ∈ ints (illL N ps r)) = decide ((i : Int) ∈ ints (illL N ps l)) := by
  rw [decide_eq_decide, mem_illL hi hl ho, mem_illL hi hl2 ho2, h0]
  unfold legL
  rw [cntN_same h 1, cntN_same h 3]
/-- A list that has another one's elements at some places. -/
structure Chg (N i : Nat) (a c : List Int) (ks : List Int) : Prop where
  len : c.length = N
  ok : LabOk c
  own : c.getD i 0 = a.getD i 0
  att : ∀ k ∈ ks, c.getD k.toNat 0 = a.getD k.toNat 0
theorem getD_set (l : List Int) (j k : Nat) (v : Int) (hj : j < l.length) : (l.set j v).getD k 0 = if k = j then v else l.getD k 0 := by
  rw [List.getD_eq_getElem?_getD, List.getD_eq_getElem?_getD, List.getElem?_set]
  by_cases e : j = k
  · subst e; simp [hj]
  · rw [if_neg e, if_neg (fun h => e h.symm)]
theorem LabOk.set {l : List Int} (h : LabOk l) {x : Int} (hx : x = 1 ∨ x = 2 ∨ x = 3) (j : Nat) : LabOk (l.set j x) := fun y hy => by
  rcases List.mem_or_eq_of_mem_set hy with h1 | h1
  · exact h y h1
  · subst h1; exact hx
theorem Chg.start {N i : Nat} {a b : List Int} (hi : i < N) (hb : b.length = N) (hob : LabOk b) {x : Int} (hx : x = 1 ∨ x = 2 ∨ x = 3) (ha : a.getD i 0 = x) : Chg N i a (b.set i x) [] :=
  ⟨by rw [List.length_set]; exact hb, hob.set hx i, by rw [getD_set b i i x (by omega), if_pos rfl, ha], fun k hk => (by cases hk)⟩
theorem Chg.step {N i : Nat} {a c ks : List Int} (h : Chg N i a c ks) {g : Nat} (hg : g < N) {x : Int} (hx : x = 1 ∨ x = 2 ∨ x = 3) (ha : a.getD g 0 = x) : Chg N i a (c.set g x) (ks ++ [(g : Int)]) := by
  have hgl : g < c.length := by rw [h.len]; exact hg
  refine ⟨by rw [List.length_set]; exact h.len, h.ok.set hx g, ?_, fun k hk => ?_⟩
  · rw [getD_set c g i x hgl]
    by_cases e : i = g
    · rw [if_pos e, e, ha]
    · rw [if_neg e]; exact h.own
  · rw [getD_set c g k.toNat x hgl]
    by_cases e : k.toNat = g
    · rw [if_pos e, e, ha]
    · rw [if_neg e]
      rcases List.mem_append.1 hk with hk | hk
      · exact h.att k hk
      · rw [List.mem_singleton] at hk
        subst hk
        exact absurd rfl e

set_option maxRecDepth 100000 in
set_option maxHeartbeats 4000000 in
theorem changes_walk (lv : Value) (zs : List Int) (w : World) (hz : IntsAt w w.heap.size lv zs) :
    Calls Try.prog 8 #[lv] w fun e w' => e = .returned (.bool true) ∧ Below w.heap.size w w' := by
  have HZ := hidIt hz
  clear hz
  go_enter Try.func8, Try.ntmps8
  go_wp2_with fail
  refine (new_any lv zs w.heap.size w HZ.out (Nat.le_refl _)).mono ?_
  rintro e w1 ⟨zs', rfl, hs1, o1, rfl⟩
  have HS1 := hidIt hs1
  have HB1 := hidIt (bgrow w o1)
  have hsz1 : w.heap.size < (w.alloc o1).heap.size := hs1.lt
  clear hs1
  generalize w.alloc o1 = w1 at *
  go_wp2_with fail
  refine (kGraph_any 8 (by decide) _ _ _ _ w1 HS1.out).mono ?_
  rintro e w2 ⟨N, ps, ga, gc, k2, rfl, hN, hok, hpl, hop, hs2, hg2⟩
  have HOK := hidIt hok
  have HPS := hidIt hpl
  have hgr := bgrow w2 (.cells #[.int .i64 (N : Int), .slice ga ps.length gc] 27)
  have HO3 := hidIt (hop.r.go hgr)
  have HS3 := hidIt (hs2.alloc (.cells #[.int .i64 (N : Int), .slice ga ps.length gc] 27))
  have HX3 := hidIt (heap_alloc_new w2 (.cells #[.int .i64 (N : Int), .slice ga ps.length gc] 27))
  have HB2 := hidIt (below_read HB1.out hg2 (Nat.le_of_lt hsz1))
  have HB3 := hidIt (HB2.out.trans (Below.mono hgr HB2.out.size))
  have hG : w.heap.size < w2.heap.size := Nat.lt_of_lt_of_le hsz1 hg2.size
  clear hok hpl hop hs2 hg2 hgr HB2 HS1 HB1
  go_upto_region 3 with (fail)
  generalize hw3 : (w2.alloc (.cells #[.int .i64 (N : Int), .slice ga ps.length gc] 27)) = w3 at *
  have hsz3 : w.heap.size < w3.heap.size := by rw [← hw3, World.size_alloc]; omega
  have hGsz : w2.heap.size < w3.heap.size := by rw [← hw3, World.size_alloc]; omega
  clear hw3
  generalize w2.heap.size = G at *
  have HSa : Hid (SrcAt w3.drew _ _ _ _) := HS3.out.drewN 1
  have HOa : Hid (PRr _ _ w3.drew _ _) := HO3.out.go (below_drewN9 (Below.refl w3.heap.size w3) 1)
  have HXa : Hid (w3.drew.heap[G]? = some (.cells #[.int .i64 (N : Int), .slice ga ps.length gc] 27 (0, 0))) := HX3.out
  have HBa : Hid (Below w.heap.size w w3.drew) := ⟨HB3.out.os, HB3.out.tape, HB3.out.output, HB3.out.size, HB3.out.block⟩
  have hsza : w3.heap.size ≤ w3.drew.heap.size := Nat.le_refl _
  have hszw : w.heap.size < w3.drew.heap.size := hsz3
  have hszG : G < w3.drew.heap.size := hGsz
  obtain ⟨x0, x1⟩ := And.intro (cell_two0 HXa.out) (cell_two1 HXa.out)
  have lx := lt_of_block HXa.out
  clear HS3 HO3 HX3 HB3
  go_region_law (first
    | (go_simp; go_at_call 11; refine (kLabels_any N (by omega) _ _ _ _ _ HSa.out).mono ?_; rintro e w7 ⟨a, aa, ac, k7, rfl, hal, hao, hoa, hs7, hg7⟩
       have HSb := hidIt hs7
       have HO7 := hidIt (HOa.out.keep hg7 (fun q e => by injection e with e; omega))
       have HX7 := hidIt (blk_keep HXa.out hg7 (fun q e => by injection e with e; omega))
       have HB7 := hidIt (below_read HBa.out hg7 (Nat.le_of_lt hszw))
       have HA7 := hidIt hoa.r
       have hsz7 : w3.drew.heap.size ≤ w7.heap.size := hg7.size
       have y0 := cell_two0 HX7.out
       have ly := lt_of_block HX7.out
       clear HSa hs7 hg7 hoa)
    | (go_simp; go_at_call 11; refine (kLabels_any N (by omega) _ _ _ _ _ HSb.out).mono ?_; rintro e w8 ⟨b, ba, bc, k8, rfl, hbl, hbo, hob, hs8, hg8⟩
       have HO8 := hidIt (HO7.out.keep hg8 (fun q e => by injection e with e; omega))
       have HX8 := hidIt (blk_keep HX7.out hg8 (fun q e => by injection e with e; omega))
       have HB8 := hidIt (below_read HB7.out hg8 (by omega))
       have HA8 := hidIt (HA7.out.keep hg8 (fun q e => by injection e with e; omega))
       have HBB8 := hidIt hob.il
       have hsz8 : w7.heap.size ≤ w8.heap.size := hg8.size
       clear HSb hs8 hg8 hob y0 ly HO7 HX7 HB7 HA7))
  all_goals (
    go_simp
    have HAL := hidIt hal
    have HAO := hidIt hao
    have HBL := hidIt hbl
    have HBO := hidIt hbo
    have HA := hidIt HA8.out.il
    have HP := hidIt HO8.out.at_
    clear hal hao hbl hbo HA8 HO8 HOa HXa HBa x0 x1 lx hsza hszw hszG hsz7 hsz8
    go_wp2_with fail
    go_loopw [7, 8, 10, 43] (fun v7 _ _ _ wr => ∃ i : Nat, i ≤ N ∧ v7 = .int .i64 i ∧ Hid (Below w8.heap.size w8 wr)) (fun v7 _ _ _ _ => N - (intOf v7).toNat)
    case atStart => exact ⟨0, Nat.zero_le _, (by first | rfl | trivial), Below.refl _ _⟩
    case round =>
      obtain ⟨i, hi, rfl, HBr⟩ := hrel
      have hi0 : (0 : Int) ≤ (i : Int) := by omega
      have HXr := hidIt (blk_kept2 HX8.out HBr.out)
      obtain ⟨x0, x1⟩ := And.intro (cell_two0 HXr.out) (cell_two1 HXr.out)
      have lx := lt_of_block HXr.out
      by_cases hlt : i < N
      · have hiI : (i : Int) < (N : Int) := by omega
        have hgr := bgrow wr (.cells #[] 3)
        have HBa := hidIt ((HBB8.out.below HBr.out).below hgr)
        go_wp2_with (at_builtin; refine Hid.out ?_)
        refine hidIt ?_
        refine wpList_append_ints rfl (.tmp 29) (.tmp 30) rfl wr.heap.size wr.heap.size (Nat.le_refl _) (heap_alloc_new _ _) rfl ba N bc b rfl HBa.out (by omega) ?_
        intro g9 c9 w9 ho9 hg9
        have hb9 : Below wr.heap.size wr w9 := below_app5 hgr hg9 (fun g e => by injection e with e; omega) hgr.size
        have HA9 := hidIt ((HA.out.below HBr.out).below hb9)
        have hial : i < a.length := by have := HAL.out; omega
        obtain ⟨yn, hy1, hy2, hy4, hy0⟩ := HAO.out.nat hial
        obtain ⟨a', c', hea, hica⟩ := HA9.out.ic
        injection hea with hea1 hea2 hea3
        subst hea1 hea3
        obtain ⟨b1, o1, rfl, l1, hc1⟩ := hica.at_ hial
        have p0 := hc1 i hial
        rw [hy1] at p0
        obtain ⟨⟨z0, cz0⟩, f9, hst⟩ := ho9.store HBL.out (j := i) hlt (yn : Int)
        have lg9 := ho9.blk.2
        have hg9b := ho9.blk.1
        have HCH := hidIt (Chg.start (a := a) hlt HBL.out HBO.out (x := (yn : Int)) (by omega) hy2)
        have hb10 : Below wr.heap.size wr (w9.setCell ⟨g9, i, none⟩ (.int .i64 (yn : Int))) := below_set5 hb9 hg9b
        have HOc := hidIt hst
        have HB10 := hidIt (HBr.out.trans (Below.mono hb10 HBr.out.size))
        have HW8 : Hid (w8.heap.size ≤ wr.heap.size) := HBr.out.size
        have HBo := hidIt hb10
        have HX10 := hidIt (blk_kept2 HX8.out HB10.out)
        clear hgr HBa ho9 hg9 hb9 hial hy1 hy2 hc1 hica hea2 hst hb10 HA9 HBr
        go_upto_region 9 with (fail)
        clear x0 x1 lx p0 cz0 f9 lg9 l1 HXr
        generalize (w9.setCell ⟨g9, i, none⟩ (.int .i64 (yn : Int))) = w10 at *
        obtain ⟨x0, x1⟩ := And.intro (cell_two0 HX10.out) (cell_two1 HX10.out)
        have lx := lt_of_block HX10.out
        have HAT := hidIt (gAttackers_own (N : Int) _ ps (i : Int) w10 (HP.out.below HB10.out) HPS.out)
        rw [vL_of HOK.out] at HAT
        go_wp2_with fail
        refine HAT.out.mono ?_
        rintro e w11 ⟨v11, rfl, ho11, hb11⟩
        have HIX : Hid (∀ k ∈ inL ps (i : Int), 0 ≤ k ∧ k < (N : Int)) := fun k hk => by
          unfold inL at hk
          rw [List.mem_map] at hk
          obtain ⟨p, hp, rfl⟩ := hk
          exact (HOK.out.ix p (List.mem_filter.1 hp).1).1
        have HKL := hidIt (inL_len ps (i : Int))
        have HSAME : Hid (∀ c, Chg N i a c (inL ps (i : Int)) → decide ((i : Int) ∈ ints (illL N ps c)) = decide ((i : Int) ∈ ints (illL N ps a))) := fun c h => ill_same hlt HAL.out HAO.out h.len h.ok h.own h.att
        generalize inL ps (i : Int) = ks at *
        have HK11 := hidIt ho11.r
        have HOc11 := hidIt (HOc.out.go hb11)
        have HBo11 := hidIt (HBo.out.trans (Below.mono hb11 HBo.out.size))
        have HB11 := hidIt (HB10.out.trans (Below.mono hb11 HB10.out.size))
        have hg10 : g9 < w10.heap.size := HOc.out.blk.2
        obtain ⟨a11, c11, rfl, -⟩ := ho11.il.form
        obtain ⟨A, hA⟩ : ∃ A, A = ks.length := ⟨_, rfl⟩
        have HAA := hidIt hA
        rw [← hA] at HK11 ⊢
        have hA1 : A ≤ 1000 := by have := HKL.out; have := HPS.out; omega
        clear hA ho11 hb11 HAT HOc HBo HB10 HX10 x0 x1 lx
        obtain ⟨wo, hwo⟩ : ∃ wo, wo = wr := ⟨_, rfl⟩
        subst hwo
        go_wp2_with fail
        go_loopw [10, 43] (fun _ v43 wr => ∃ (q : Nat) (cl : List Int), q ≤ A ∧ v43 = .int .i64 q ∧ Hid (Chg N i a cl (ks.take q)) ∧ Hid (OwnI wr wo.heap.size (.slice (some ⟨g9, 0, none⟩) N c9) cl) ∧ Hid (ILr w10.heap.size w11.heap.size wr (.slice a11 A c11) ks) ∧ Hid (Below w8.heap.size w8 wr) ∧ Hid (Below wo.heap.size wo wr)) (fun _ v43 _ => A - (intOf v43).toNat)
        case atStart => exact ⟨0, _, Nat.zero_le _, (by first | rfl | trivial), HCH.out, HOc11.out, HK11.out, HB11.out, HBo11.out⟩
        case round =>
          clear HCH HOc11 HK11 HB11 HBo11
          obtain ⟨q, cl, hq, rfl, HCH, HOc, HK, HBx, HBo⟩ := hrel
          have hq0 : (0 : Int) ≤ (q : Int) := by omega
          have HXx := hidIt (blk_kept2 HX8.out HBx.out)
          obtain ⟨x0, x1⟩ := And.intro (cell_two0 HXx.out) (cell_two1 HXx.out)
          have lx := lt_of_block HXx.out
          by_cases hlt2 : q < A
          · have hqI : (q : Int) < (A : Int) := by omega
            have hqk : q < ks.length := by have := HAA.out; omega
            obtain ⟨a2, c2, hek, hick⟩ := HK.out.il.ic
            injection hek with hek1 hek2 hek3
            subst hek1 hek3
            obtain ⟨b2, o2, rfl, l2, hc2⟩ := hick.at_ hqk
            have q0 := hc2 q hqk
            have hrg := HIX.out ks[q] (List.getElem_mem _)
            obtain ⟨g, hgk⟩ : ∃ g : Nat, ks[q] = (g : Int) := ⟨ks[q].toNat, by omega⟩
            have HTK : Hid (ks.take (q + 1) = ks.take q ++ [(g : Int)]) := by show _ = _; rw [List.take_succ_eq_append_getElem hqk, hgk]
            rw [hgk] at q0 hrg
            have hgN : g < N := by omega
            have hg0 : (0 : Int) ≤ (g : Int) := by omega
            have hgI : (g : Int) < (N : Int) := by omega
            have hgl : ¬ (g : Int) < 0 := by omega
            have hgge : ¬ (N : Int) ≤ (g : Int) := by omega
            have hgal : g < a.length := by have := HAL.out; omega
            obtain ⟨yn2, hy1, hy2, hy4', hy0'⟩ := HAO.out.nat hgal
            have HA9 := hidIt (HA.out.below HBx.out)
            obtain ⟨a', c', hea, hica⟩ := HA9.out.ic
            injection hea with hea1 hea2 hea3
            subst hea3
            obtain ⟨b1', o1', hae, l1, hc1⟩ := hica.at_ hgal
            rw [← hea1] at hae
            injection hae with hae
            injection hae with hae1 hae2
            subst hae1 hae2
            have p0 := hc1 g hgal
            rw [hy1] at p0
            obtain ⟨⟨z0, cz0⟩, f9, hst⟩ := HOc.out.store HCH.out.len (j := g) hgN (yn2 : Int)
            have lg9 := HOc.out.blk.2
            have hg9b := HOc.out.blk.1
            have HCHn := hidIt (HCH.out.step hgN (x := (yn2 : Int)) (by omega) hy2)
            rw [← HTK.out] at HCHn
            have hg11 := set_read (w := wr) (g := g9) (j := g) (u := .int .i64 (yn2 : Int))
            have HKn := hidIt (HK.out.keep hg11 (fun r e => by injection e with e; omega))
            have HOn := hidIt hst
            have HBon : Hid (Below wo.heap.size wo (wr.setCell ⟨g9, g, none⟩ (.int .i64 (yn2 : Int)))) := below_set5 HBo.out hg9b
            have HBxn : Hid (Below w8.heap.size w8 (wr.setCell ⟨g9, g, none⟩ (.int .i64 (yn2 : Int)))) := below_set5 HBx.out (by have := HW8.out; omega)
            clear hc1 hc2 hick hica hek2 hea2 hea1 hst hg11 HA9 hqk hgk hrg hgal hy1 hy2
            go_wp2_with fail
            go_roundw
            case rel => exact ⟨q + 1, _, by omega, by go_num, HCHn.out, HOn.out, HKn.out, HBxn.out, HBon.out⟩
            case measure => simp [intOf]; omega
          · obtain rfl : q = A := by omega
            have hqI : ¬ (q : Int) < (q : Int) := by omega
            have HCF : Hid (Chg N i a cl ks) := by
              have h := HCH.out
              rwa [List.take_of_length_le (by have := HAA.out; omega)] at h
            have HSM := hidIt (HSAME.out cl HCF.out)
            have HCI := hidIt HOc.out.il
            have HAI := hidIt (HA.out.below HBx.out)
            have HPI := hidIt (HP.out.below HBx.out)
            have LA : a.length ≤ 1000 := by have := HAL.out; omega
            have LC : cl.length ≤ 1000 := by have := HCF.out.len; omega
            have CI1 : Hid (∀ wx, Ext wr wx → Calls Try.prog 16 #[.agg #[.int .i64 (N : Int), .slice ga ps.length gc], .slice (some ⟨b1, o1, none⟩) N ac] wx fun e w'' => ∃ u, e = .returned u ∧ Ext wr w'' ∧ Grows wx w'' ∧ isL (illL N ps a).length (ints (illL N ps a)) u w'') := fun wx hC => rel_call hC ((lIllegal_any N _ _ ps a wx (HPI.out.below hC) HOK.out HPS.out (HAI.out.below hC) LA).mono fun e w'' ⟨a, c, h1, h2, h3⟩ => ⟨_, h1, ⟨a, c, rfl, h2.il⟩, h3⟩)
            have CI2 : Hid (∀ wx, Ext wr wx → Calls Try.prog 16 #[.agg #[.int .i64 (N : Int), .slice ga ps.length gc], .slice (some ⟨g9, 0, none⟩) N c9] wx fun e w'' => ∃ u, e = .returned u ∧ Ext wr w'' ∧ Grows wx w'' ∧ isL (illL N ps cl).length (ints (illL N ps cl)) u w'') := fun wx hC => rel_call hC ((lIllegal_any N _ _ ps cl wx (HPI.out.below hC) HOK.out HPS.out (HCI.out.below hC) LC).mono fun e w'' ⟨a, c, h1, h2, h3⟩ => ⟨_, h1, ⟨a, c, rfl, h2.il⟩, h3⟩)
            have L1 : (ints (illL N ps a)).length ≤ 1000000 := by rw [ints_len]; have := illL_len N ps a; omega
            have L2 : (ints (illL N ps cl)).length ≤ 1000000 := by rw [ints_len]; have := illL_len N ps cl; omega
            have CN1 : Hid (∀ wx a1 c1, Ext wr wx → IL wx (.slice a1 (illL N ps a).length c1) (ints (illL N ps a)) → Calls Try.prog 34 #[.slice a1 (illL N ps a).length c1, .int .i64 (i : Int)] wx fun e w'' => ∃ u, e = .returned u ∧ Ext wr w'' ∧ Grows wx w'' ∧ isB (decide ((i : Int) ∈ ints (illL N ps a))) u w'') := fun wx a1 c1 hC h1 => rel_call hC ((kIn_any _ _ (i : Int) wx h1 L1).mono fun e w'' ⟨h3, h4⟩ => ⟨_, h3, rfl, by rw [h4]; exact Below.refl _ _⟩)
            have CN2 : Hid (∀ wx a1 c1, Ext wr wx → IL wx (.slice a1 (illL N ps cl).length c1) (ints (illL N ps cl)) → Calls Try.prog 34 #[.slice a1 (illL N ps cl).length c1, .int .i64 (i : Int)] wx fun e w'' => ∃ u, e = .returned u ∧ Ext wr w'' ∧ Grows wx w'' ∧ isB (decide ((i : Int) ∈ ints (illL N ps a))) u w'') := fun wx a1 c1 hC h1 => rel_call hC ((kIn_any _ _ (i : Int) wx h1 L2).mono fun e w'' ⟨h3, h4⟩ => ⟨_, h3, (by rw [HSM.out]; rfl), by rw [h4]; exact Below.refl _ _⟩)
            clear LA LC L1 L2 HSM HSAME
            go_wp2_with fail
            generalize decide ((i : Int) ∈ ints (illL N ps a)) = V at *
            generalize ints (illL N ps a) = is1 at *
            generalize (illL N ps a).length = il1 at *
            generalize ints (illL N ps cl) = is2 at *
            generalize (illL N ps cl).length = il2 at *
            have X0 : ∀ wx, Ext wr wx → wx.cell? ⟨G, 0, none⟩ = some (.int .i64 (N : Int)) := fun wx hC => (Below.cell (p := ⟨G, 0, none⟩) hC lx).trans x0
            have X1 : ∀ wx, Ext wr wx → wx.cell? ⟨G, 1, none⟩ = some (.slice ga ps.length gc) := fun wx hC => (Below.cell (p := ⟨G, 1, none⟩) hC lx).trans x1
            haveI := Ext.nonempty wr
            refine wp_region_rel (Ext wr) Grows (relTab [(65, isL il1 is1), (67, isB V), (70, isL il2 is2), (72, isB V)]) (by kernel_rfl) (by kernel_rfl) (by kernel_rfl) (stable_cons (isL_up _ _) (stable_cons (isB_up _) (stable_cons (isL_up _ _) (stable_cons (isB_up _) (stable_nil _))))) (Ext.start wr) ?_
            repeat (
            refine' walkR_plain (by kernel_rfl) rfl rfl (fun wx hC hL => ?_) ?_
            rotate_left
            · (have hlx := Nat.lt_of_lt_of_le lx (Below.size hC)
               simp only [X0 wx hC, X1 wx hC, hlx, go_sem]; first | done | (go_simp; exact ⟨rfl, rfl⟩))
            simp only [Act.put, List.setIfInBounds_toArray, List.set_cons_zero, List.set_cons_succ])
            refine walkR_rel (by kernel_rfl) rfl rfl (of_decide_eq_true (by kernel_rfl)) (fun wx hC hL => ?_) (fun v hv => ?_)
            · go_simp
              exact CI1.out wx hC
            obtain ⟨_, _, a65, c65, rfl, -⟩ := hv
            simp only [Act.put, List.setIfInBounds_toArray, List.set_cons_zero, List.set_cons_succ]
            repeat (
            refine' walkR_plain (by kernel_rfl) rfl rfl (fun wx hC hL => ?_) ?_
            rotate_left
            · (have hlx := Nat.lt_of_lt_of_le lx (Below.size hC)
               simp only [X0 wx hC, X1 wx hC, hlx, go_sem]; first | done | (go_simp; exact ⟨rfl, rfl⟩))
            simp only [Act.put, List.setIfInBounds_toArray, List.set_cons_zero, List.set_cons_succ])
            refine walkR_rel (by kernel_rfl) rfl rfl (of_decide_eq_true (by kernel_rfl)) (fun wx hC hL => ?_) (fun v hv => ?_)
            · have h65 : isL il1 is1 (.slice a65 il1 c65) wx := hL.get 65 (by simp [more]) (by kernel_rfl) rfl rfl
              have i65 := hidIt h65.il
              clear h65
              go_simp
              exact CN1.out wx a65 c65 hC i65.out
            obtain ⟨_, _, rfl⟩ := hv
            simp only [Act.put, List.setIfInBounds_toArray, List.set_cons_zero, List.set_cons_succ]
            repeat (
            refine' walkR_plain (by kernel_rfl) rfl rfl (fun wx hC hL => ?_) ?_
            rotate_left
            · (have hlx := Nat.lt_of_lt_of_le lx (Below.size hC)
               simp only [X0 wx hC, X1 wx hC, hlx, go_sem]; first | done | (go_simp; exact ⟨rfl, rfl⟩))
            simp only [Act.put, List.setIfInBounds_toArray, List.set_cons_zero, List.set_cons_succ])
            refine walkR_rel (by kernel_rfl) rfl rfl (of_decide_eq_true (by kernel_rfl)) (fun wx hC hL => ?_) (fun v hv => ?_)
            · go_simp
              exact CI2.out wx hC
            obtain ⟨_, _, a70, c70, rfl, -⟩ := hv
            simp only [Act.put, List.setIfInBounds_toArray, List.set_cons_zero, List.set_cons_succ]
            repeat (
            refine' walkR_plain (by kernel_rfl) rfl rfl (fun wx hC hL => ?_) ?_
            rotate_left
            · (have hlx := Nat.lt_of_lt_of_le lx (Below.size hC)
               simp only [X0 wx hC, X1 wx hC, hlx, go_sem]; first | done | (go_simp; exact ⟨rfl, rfl⟩))
            simp only [Act.put, List.setIfInBounds_toArray, List.set_cons_zero, List.set_cons_succ])
            refine walkR_rel (by kernel_rfl) rfl rfl (of_decide_eq_true (by kernel_rfl)) (fun wx hC hL => ?_) (fun v hv => ?_)
            · have h70 : isL il2 is2 (.slice a70 il2 c70) wx := hL.get 70 (by simp [more]) (by kernel_rfl) rfl rfl
              have i70 := hidIt h70.il
              clear h70
              go_simp
              exact CN2.out wx a70 c70 hC i70.out
            obtain ⟨_, _, rfl⟩ := hv
            simp only [Act.put, List.setIfInBounds_toArray, List.set_cons_zero, List.set_cons_succ]
            repeat (
            refine' walkR_plain (by kernel_rfl) rfl rfl (fun wx hC hL => ?_) ?_
            rotate_left
            · (have hlx := Nat.lt_of_lt_of_le lx (Below.size hC)
               simp only [X0 wx hC, X1 wx hC, hlx, go_sem]; first | done | (go_simp; exact ⟨rfl, rfl⟩))
            simp only [Act.put, List.setIfInBounds_toArray, List.set_cons_zero, List.set_cons_succ])
            refine fun w20 hC20 hK => ?_
            have hb20 : Below wr.heap.size wr w20 := hC20
            have HBZ := hidIt (HBx.out.trans (Below.mono hb20 HBx.out.size))
            clear hb20 hC20 hK X0 X1 x0 x1 lx
            go_wp2_with fail
            go_roundw
            case rel => exact ⟨i + 1, by omega, by go_num, HBZ.out⟩
            case measure => simp [intOf]; omega
      · obtain rfl : i = N := by omega
        have hiI : ¬ (i : Int) < (i : Int) := by omega
        go_wp2_with fail
        refine (awake11_any _).mono ?_
        rintro e w30 ⟨rfl, hb⟩
        have HBF := hidIt ((HB8.out.trans (Below.mono HBr.out HB8.out.size)).trans (Below.mono hb (Nat.le_trans HB8.out.size HBr.out.size)))
        clear hb
        go_wp2_with fail
        go_ret
        exact ⟨rfl, HBF.out⟩)
end Go.Proofs.Ytbahfcefplgigaa
