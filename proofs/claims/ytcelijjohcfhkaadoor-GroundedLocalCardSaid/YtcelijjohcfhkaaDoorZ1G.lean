/- Components, for every graph whose components the order's own search can list. keep.Lists; the chapter's example: what each call answers at it. awake: the chapter's examples answer true, in whatever memory the library's table lies. -/
import Derived.Test.YtcelijjohcfhkaaDoorG1D
import Derived.Test.YtcelijjohcfhkaaDoorG0N

namespace Go.Proofs.YtcelijjohcfhkaaDoor
set_option linter.unusedVariables false
set_option linter.unusedSimpArgs false
open Go Go.RowKit Go.Sort

theorem set4 {w : World} {P : Nat} {u0 u1 u2 u3 x0 x1 x2 x3 : Value} {t : TypeId} (h : w.heap[P]? = some (.cells #[u0, u1, u2, u3] t (0, 0))) :
    ((((w.setCell ⟨P, 0, none⟩ x0).setCell ⟨P, 1, none⟩ x1).setCell ⟨P, 2, none⟩ x2).setCell ⟨P, 3, none⟩ x3).heap[P]? = some (.cells #[x0, x1, x2, x3] t (0, 0)) := by
  have h1 := set_cells (i := 0) (u := x0) h
  have h2 := set_cells (i := 1) (u := x1) h1
  have h3 := set_cells (i := 2) (u := x2) h2
  have h4 := set_cells (i := 3) (u := x3) h3
  simpa using h4
theorem types_ne {w : World} {a b : Nat} {ca cb : Array Value} {ta tb : TypeId} (h1 : w.heap[a]? = some (.cells ca ta (0, 0))) (h2 : w.heap[b]? = some (.cells cb tb (0, 0))) (ht : ta ≠ tb) : a ≠ b := fun e => by
  subst e
  rw [h1] at h2
  injection h2 with h2
  injection h2 with _ h3
  exact ht h3

set_option maxRecDepth 100000 in
set_option maxHeartbeats 8000000 in
theorem gComponents_any (n : Int) (v : Value) (xs : List (Int × Int)) (l : List (BitVec 64)) (w : World) (h : PairsAt w v xs) (hl : xs.length ≤ 1000) (hT : Tab w) (hco : CompOk (vN n xs).toNat (vL n xs) l) :
    Calls Tryd.prog 10 #[.agg #[.int .i64 n, v]] w fun e w' => ∃ v', e = .returned v' ∧ LL w' v' (listsOf l) ∧ Below w.heap.size w w' := by
  have HTAB := hidIt hT
  have hB := bgrow w (.cells #[.int .i64 n, v] 24)
  have h1 := h.below hB
  have HV := hidIt (h.valid n)
  obtain ⟨a, c, rfl, -⟩ := h.form
  have HX := hidIt (heap_alloc_new w (.cells #[.int .i64 n, .slice a xs.length c] 24))
  have HB := hidIt hB
  have H1 := hidIt h1
  have HL := hidIt hl
  have HOK := hidIt (v_ok n xs)
  have HCO := hidIt hco
  clear h h1 hB hl hT hco
  go_enter Tryd.func10, Tryd.ntmps10
  go_upto_region 1 with (fail)
  generalize (w.alloc (.cells #[.int .i64 n, .slice a xs.length c] 24)) = w1 at *
  obtain ⟨x0, x1⟩ := And.intro (cell_two0 HX.out) (cell_two1 HX.out)
  have lx := lt_of_block HX.out
  go_wp2_with fail
  refine (gvalid_any n _ xs _ H1.out (by have := HL.out; omega)).mono ?_
  rintro e w2 ⟨rfl, hb⟩
  have HX2 := hidIt (blk_kept2 HX.out hb)
  have HLN : Hid ((vL n xs).length ≤ 1000) := Nat.le_trans (vL_len n xs) HL.out
  have HB2 := hidIt (HB.out.trans (Below.mono hb HB.out.size))
  clear hb x0 x1 lx HX H1 HL HB
  generalize vL n xs = ps at *
  generalize vN n xs = m at *
  generalize vV n xs _ = v' at *
  obtain ⟨N, rfl⟩ : ∃ N : Nat, m = (N : Int) := ⟨m.toNat, by have := HOK.out.n0; omega⟩
  rw [Int.toNat_natCast] at HCO
  have hN : N ≤ 40 := by have := HOK.out.n40; omega
  obtain ⟨a', c', rfl, -⟩ := HV.out.form
  have HB3 := hidIt (below_set5 (i := 1) (u := .slice a' ps.length c') (below_set5 (i := 0) (u := .int .i64 (N : Int)) HB2.out (Nat.le_refl _)) (Nat.le_refl _))
  have HX3 := hidIt (box_set2 (x := .int .i64 (N : Int)) (y := .slice a' ps.length c') HX2.out)
  have HP3 := hidIt (HV.out.below HB3.out)
  obtain ⟨x0, x1⟩ := And.intro (cell_two0 HX2.out) (cell_two1 HX2.out)
  have lx := lt_of_block HX2.out
  have f0 := free_any HX2.out 0
  have f1 := free_any HX2.out 1
  go_upto_region 2 with (fail)
  generalize ((w2.setCell ⟨w.heap.size, 0, none⟩ (.int .i64 (N : Int))).setCell ⟨w.heap.size, 1, none⟩ (.slice a' ps.length c')) = w3 at *
  clear x0 x1 lx f0 f1 HX2 HB2
  obtain ⟨x0, x1⟩ := And.intro (cell_two0 HX3.out) (cell_two1 HX3.out)
  have lx := lt_of_block HX3.out
  have hXw3 := lx
  have X0 : ∀ wx, Ext w3 wx → wx.cell? ⟨w.heap.size, 0, none⟩ = some (.int .i64 (N : Int)) := fun wx hC => ext_cell x0 lx hC
  have X1 : ∀ wx, Ext w3 wx → wx.cell? ⟨w.heap.size, 1, none⟩ = some (.slice a' ps.length c') := fun wx hC => ext_cell x1 lx hC
  have HCA : Hid (∀ wx, Ext w3 wx → Calls Tryd.prog 25 #[.agg #[.int .i64 (N : Int), .slice a' ps.length c']] wx fun e w'' => ∃ u, e = .returned u ∧ Ext w3 w'' ∧ Grows wx w'' ∧ Own.relR (Own.rA (Own.isSets w3.heap.size N (attB ps))) wx u w'') := fun wx hC => Own.callA hC ((attackedSets_any N _ ps wx (HP3.out.below hC) HOK.out (by have := HLN.out; omega)).mono fun e w'' ⟨b, he, hbb, hs, hb⟩ => ⟨_, he, ⟨b, rfl, Nat.le_trans (Below.size hC) hbb, hs⟩, hb⟩)
  have hmk := fun w => make_ints N (by omega) w
  haveI : Nonempty (In (Ext w3)) := Ext.nonempty w3
  refine Own.wp_region_tail 7 (Ext w3) Grows (Own.relTab [(11, Own.rA (Own.isSets w3.heap.size N (attB ps))), (14, Own.rA (Own.isPl w3.heap.size N (fun _ => 0))), (3, Own.rA (Own.isNew w3.heap.size #[.slice none 0 0, .slice none 0 0, .slice none 0 0, .slice none 0 0] 52))]) (by kernel_rfl) (by kernel_rfl) (by kernel_rfl) (by kernel_rfl) (by kernel_rfl) (by kernel_rfl) (Own.stableO_cons (Own.isSets_up _ _ _) (Own.stableO_cons (Own.isPl_up _ _ _) (Own.stableO_cons (Own.isNew_up _ _ _) (Own.stableO_nil _)))) (Ext.start w3) ?_
  simp only [Own.idleTail]
  repeat (
    refine' Own.walkR_plain (by kernel_rfl) rfl rfl (fun wx hC hL => ?_) ?_
    rotate_left
    · (have hlw := Below.size hC
       have hlw1 := Nat.lt_of_lt_of_le lx hlw
       simp only [X0 wx hC, X1 wx hC, hlw1, go_sem]; first | done | (go_simp; exact ⟨rfl, rfl⟩))
    simp only [Act.put, List.setIfInBounds_toArray, List.set_cons_zero, List.set_cons_succ])
  refine Own.walkR_rel (by kernel_rfl) rfl rfl (of_decide_eq_true (by kernel_rfl)) (fun wx hC hL => ?_) (fun v hv => ?_)
  · go_simp
    exact HCA.out wx hC
  obtain ⟨_, _, ab, rfl, -, -⟩ := hv
  simp only [Act.put, List.setIfInBounds_toArray, List.set_cons_zero, List.set_cons_succ]
  repeat (
    refine' Own.walkR_plain (by kernel_rfl) rfl rfl (fun wx hC hL => ?_) ?_
    rotate_left
    · (have hlw := Below.size hC
       have hlw1 := Nat.lt_of_lt_of_le lx hlw
       simp only [X0 wx hC, X1 wx hC, hlw1, go_sem]; first | done | (go_simp; exact ⟨rfl, rfl⟩))
    simp only [Act.put, List.setIfInBounds_toArray, List.set_cons_zero, List.set_cons_succ])
  refine Own.walkR_rel (by kernel_rfl) rfl rfl (of_decide_eq_true (by kernel_rfl)) (fun wx hC hL => ?_) (fun v hv => ?_)
  · go_simp
    exact ⟨hC.grown (bgrow wx _), bgrow wx _, ⟨_, rfl, Below.size hC, heap_alloc_new _ _⟩, fun h => by cases h⟩
  obtain ⟨_, _, pb, rfl, -, -⟩ := hv
  simp only [Act.put, List.setIfInBounds_toArray, List.set_cons_zero, List.set_cons_succ]
  repeat (
    refine' Own.walkR_plain (by kernel_rfl) rfl rfl (fun wx hC hL => ?_) ?_
    rotate_left
    · (have hlw := Below.size hC
       have hlw1 := Nat.lt_of_lt_of_le lx hlw
       simp only [X0 wx hC, X1 wx hC, hlw1, go_sem]; first | done | (go_simp; exact ⟨rfl, rfl⟩))
    simp only [Act.put, List.setIfInBounds_toArray, List.set_cons_zero, List.set_cons_succ])
  refine Own.walkR_rel (by kernel_rfl) rfl rfl (of_decide_eq_true (by kernel_rfl)) (fun wx hC hL => ?_) (fun v hv => ?_)
  · go_simp
    exact ⟨hC.grown (bgrow wx _), bgrow wx _, ⟨_, rfl, Below.size hC, heap_alloc_new _ _⟩, fun h => by cases h⟩
  obtain ⟨_, _, nb, rfl, -, -⟩ := hv
  simp only [Act.put, List.setIfInBounds_toArray, List.set_cons_zero, List.set_cons_succ]
  refine Own.walkR_idle (fun wx _ => Below.refl _ _) ?_
  refine fun w7 hE7 hK => ?_
  obtain ⟨ab', e11, ha0, ha1⟩ : Own.isSets w3.heap.size N (attB ps) (.slice (some ⟨ab, 0, none⟩) N N) w7 := hK.get 11 (by simp [Own.more]) rfl rfl
  obtain ⟨pb', e14, hp0, hp1⟩ : Own.isPl w3.heap.size N (fun _ => 0) (.slice (some ⟨pb, 0, none⟩) N N) w7 := hK.get 14 (by simp [Own.more]) rfl rfl
  obtain ⟨nb', e3, hn0, hn1⟩ : Own.isNew w3.heap.size #[.slice none 0 0, .slice none 0 0, .slice none 0 0, .slice none 0 0] 52 (.pointer (some ⟨nb, 0, none⟩)) w7 := hK.get 3 (by simp [Own.more]) rfl rfl
  injection e11 with e11
  injection e11 with e11
  injection e11 with e11
  subst e11
  injection e14 with e14
  injection e14 with e14
  injection e14 with e14
  subst e14
  injection e3 with e3
  injection e3 with e3
  injection e3 with e3
  subst e3
  have hW7 : Below w3.heap.size w3 w7 := hE7
  have hnn1 := types_ne hn1 ha1 (by decide)
  have hnn2 := types_ne hn1 hp1 (by decide)
  have hnn3 := types_ne ha1 hp1 (by decide)
  have HX7 := hidIt (blk_kept2 HX3.out hW7)
  have HB7 := hidIt (HB3.out.trans (Below.mono hW7 HB3.out.size))
  have hw3 := HB3.out.size
  have hnl := lt_of_block hn1
  have hal := lt_of_block ha1
  have hpl := lt_of_block hp1
  have hxw : w.heap.size ≠ nb := by omega
  have HX8 : Hid (((((w7.setCell ⟨nb, 0, none⟩ (.slice (some ⟨ab, 0, none⟩) N N)).setCell ⟨nb, 1, none⟩ (.slice none 0 0)).setCell ⟨nb, 2, none⟩ (.slice (some ⟨pb, 0, none⟩) N N)).setCell ⟨nb, 3, none⟩ (.slice none 0 0)).heap[w.heap.size]? = some (.cells #[.int .i64 (N : Int), .slice a' ps.length c'] 24 (0, 0))) := by
    show _ = _
    rw [Below.heap_setCell _ ⟨nb, 3, none⟩ _ _ hxw, Below.heap_setCell _ ⟨nb, 2, none⟩ _ _ hxw, Below.heap_setCell _ ⟨nb, 1, none⟩ _ _ hxw, Below.heap_setCell _ ⟨nb, 0, none⟩ _ _ hxw]
    exact HX7.out
  have HWK : Hid (WK w nb ab pb w7.heap.size N (attB ps) ((((w7.setCell ⟨nb, 0, none⟩ (.slice (some ⟨ab, 0, none⟩) N N)).setCell ⟨nb, 1, none⟩ (.slice none 0 0)).setCell ⟨nb, 2, none⟩ (.slice (some ⟨pb, 0, none⟩) N N)).setCell ⟨nb, 3, none⟩ (.slice none 0 0)) (runF (attB ps) N 0) (.slice none 0 0) (.slice none 0 0)) := by
    have hk : ∀ g, g ≠ nb → ((((w7.setCell ⟨nb, 0, none⟩ (.slice (some ⟨ab, 0, none⟩) N N)).setCell ⟨nb, 1, none⟩ (.slice none 0 0)).setCell ⟨nb, 2, none⟩ (.slice (some ⟨pb, 0, none⟩) N N)).setCell ⟨nb, 3, none⟩ (.slice none 0 0)).heap[g]? = w7.heap[g]? := fun g hg => by
      rw [Below.heap_setCell _ ⟨nb, 3, none⟩ _ _ hg, Below.heap_setCell _ ⟨nb, 2, none⟩ _ _ hg, Below.heap_setCell _ ⟨nb, 1, none⟩ _ _ hg, Below.heap_setCell _ ⟨nb, 0, none⟩ _ _ hg]
    refine ⟨⟨by omega, by omega, by omega⟩, ⟨hnn1, hnn2, hnn3⟩, ⟨hnl, hal, hpl⟩, set4 hn1, ?_, ?_, OwnI.nil _ _, OwnU.nil _ _, fun g e => (by cases e), ?_, by repeat (first | exact Nat.le_refl _ | rw [size_setCell9])⟩
    · unfold SetsAt; rw [hk ab (Ne.symm hnn1)]; exact ha1
    · unfold IntsIn; rw [hk pb (Ne.symm hnn2)]; exact hp1
    · exact below_set5 (below_set5 (below_set5 (below_set5 HB7.out (by omega)) (by omega)) (by omega)) (by omega)
  have HB8 : Hid (∀ wx, Below w.heap.size w wx → Tab wx) := fun wx hx => HTAB.out.go hx
  have r0 := (four0 hn1).1
  obtain ⟨n0, n1, n2, n3⟩ := four0 hn1
  have fn0 := free_any hn1 0
  have fn1 := free_any hn1 1
  have fn2 := free_any hn1 2
  have fn3 := free_any hn1 3
  clear hK hE7 X0 X1 HCA hmk hW7 ha0 ha1 hp0 hp1 hn0 hn1 x0 x1 lx r0
  simp only [List.drop_succ_cons, List.drop_zero]
  go_upto_region 3 with (fail)
  generalize ((((w7.setCell ⟨nb, 0, none⟩ (.slice (some ⟨ab, 0, none⟩) N N)).setCell ⟨nb, 1, none⟩ (.slice none 0 0)).setCell ⟨nb, 2, none⟩ (.slice (some ⟨pb, 0, none⟩) N N)).setCell ⟨nb, 3, none⟩ (.slice none 0 0)) = w8 at *
  clear n0 n1 n2 n3 fn0 fn1 fn2 fn3 hnl hal hpl HX7 HB7
  generalize w7.heap.size = B at *
  have ha : ∀ i j, (attB ps i).getLsbD j = true → j < N := fun i j => att_lt HOK.out i j
  have HA := hidIt ha
  obtain ⟨x0, x1⟩ := And.intro (cell_two0 HX8.out) (cell_two1 HX8.out)
  have lx := lt_of_block HX8.out
  clear ha
  go_wp2_with fail
  go_loopw [4, 18] (fun _ vk wr => ∃ (k : Nat) (sv cv : Value), vk = .int .i64 (k : Int) ∧ k ≤ N ∧ Hid (WK w nb ab pb B N (attB ps) wr (runF (attB ps) N k) sv cv) ∧ Hid (wr.heap[w.heap.size]? = some (.cells #[.int .i64 (N : Int), .slice a' ps.length c'] 24 (0, 0)))) (fun _ vk _ => N - (intOf vk).toNat)
  case atStart => exact ⟨0, _, _, (by first | rfl | trivial), Nat.zero_le _, HWK.out, HX8.out⟩
  case round =>
    clear HWK HX8 x0 x1 lx
    obtain ⟨k, sv, cv, rfl, hk, HW, HX⟩ := hrel
    have hkI0 : (0 : Int) ≤ (k : Int) := by omega
    have HWF := hidIt (runF_wf (attB ps) N hN HA.out k hk)
    have HRS := hidIt (runF_succ (attB ps) N k)
    obtain ⟨b0, b1, b2, b3⟩ := four0 HW.out.box
    have lb := lt_of_block HW.out.box
    by_cases hlt : k < N
    · have hkI : (k : Int) < (N : Int) := by omega
      have q0 := HW.out.pl.cell hlt
      have lq := lt_of_block HW.out.pl
      by_cases hz : (runF (attB ps) N k).places k = 0
      · have HCV := hidIt (visit_any w nb ab pb B N (attB ps) hN HA.out HTAB.out N k (runF (attB ps) N k) sv cv wr HW.out HWF.out hlt hz (zeros_N N _))
        rw [if_pos hz] at HRS
        have hb1 : ((runF (attB ps) N k).places k == 0) = true := beq_iff_eq.2 hz
        have HLX : Hid (w.heap.size < wr.heap.size ∧ w.heap.size ≠ nb ∧ w.heap.size ≠ pb ∧ sv.ownBlock ≠ some w.heap.size ∧ cv.ownBlock ≠ some w.heap.size) :=
          ⟨lt_of_block HX.out, types_ne HX.out HW.out.box (by decide), types_ne HX.out HW.out.pl (by decide), fun e => by have := (owns_blk HW.out.stk _ e).1; have := HW.out.hi.1; have := HW.out.lo.1; omega, fun e => by have := (owns_blk HW.out.cmp _ e).1; have := HW.out.hi.1; have := HW.out.lo.1; omega⟩
        clear hz
        go_wp2_with fail
        refine HCV.out.mono ?_
        rintro e w9 ⟨rfl, sv9, cv9, hw9, hf9⟩
        have HW9 := hidIt hw9
        have HX9 := hidIt ((hf9.kept w.heap.size HLX.out.1 HLX.out.2.1 HLX.out.2.2.1 HLX.out.2.2.2.1 HLX.out.2.2.2.2).trans HX.out)
        clear hw9 hf9 HCV
        go_wp2_with fail
        go_roundw
        case rel => exact ⟨k + 1, sv9, cv9, by go_num, by omega, (by show WK _ _ _ _ _ _ _ _ _ _ _; rw [HRS.out]; exact HW9.out), HX9.out⟩
        case measure => simp [intOf]; omega
      · rw [if_neg hz] at HRS
        have hb1 : ((runF (attB ps) N k).places k == 0) = false := beq_eq_false_iff_ne.2 hz
        clear hz
        go_wp2_with fail
        go_roundw
        case rel => exact ⟨k + 1, sv, cv, by go_num, by omega, (by show WK _ _ _ _ _ _ _ _ _ _ _; rw [HRS.out]; exact HW.out), HX.out⟩
        case measure => simp [intOf]; omega
    · obtain rfl : k = N := by omega
      have hkI : ¬ (k : Int) < (k : Int) := by omega
      obtain ⟨sorted, hsp, hspw, hord⟩ := HCO.out
      have HSP := hidIt hsp
      have HSPW := hidIt hspw
      have HORD := hidIt hord
      clear hsp hspw hord HRS
      obtain ⟨ca, cc, rfl, huc⟩ := HW.out.cmp.uc
      have HUC := hidIt huc
      have HBR := hidIt HW.out.bel
      have HSETS : Hid (∀ c ∈ (runF (attB ps) k k).comps, ∀ j ∈ members c, j < k) := fun c hc j hj => HWF.out.sets c hc j (mem_members.1 hj).2
      have HCL : Hid ((runF (attB ps) k k).comps.length ≤ 64) := by have := HWF.out.sum; show _ ≤ _; omega
      have HEMP : Hid ((runF (attB ps) k k).comps = [] → ca = none ∨ ∃ g, ca = some ⟨g, 0, none⟩) := fun he => by
        rcases HW.out.cmp.2 with ⟨h, -⟩ | ⟨g, cap, cur, h, -⟩
        · injection h with h1; exact .inl h1
        · injection h with h1; exact .inr ⟨g, h1⟩
      generalize hcs : (runF (attB ps) k k).comps = cs at *
      obtain ⟨x0, x1⟩ := And.intro (cell_two0 HX.out) (cell_two1 HX.out)
      have lx := lt_of_block HX.out
      have HPR := hidIt (HV.out.below HBR.out)
      have HTR := hidIt (HTAB.out.go HBR.out)
      have HRK := hidIt (rev_ok HOK.out)
      have HRL := hidIt (revL_len k ps HOK.out)
      have HCG : Hid (∀ wx, Ext wr wx → Calls Tryd.prog 21 #[.agg #[.int .i64 (k : Int), .slice a' ps.length c']] wx fun e w'' => ∃ u, e = .returned u ∧ Ext wr w'' ∧ Grows wx w'' ∧ Own.relR (Own.rA (Own.isGr (k : Int) (revL k ps))) wx u w'') := fun wx hC => Own.callA hC ((gReverse_any (k : Int) _ ps wx (HPR.out.below hC) HLN.out).mono fun e w'' ⟨v', he, hp, hb⟩ => by
        unfold rvL at hp
        rw [vN_of HOK.out] at he hp
        rw [vL_of HOK.out, Int.toNat_natCast] at hp
        obtain ⟨ga, gc, rfl, -⟩ := hp.form
        exact ⟨_, he, ⟨ga, gc, rfl, hp⟩, hb⟩)
      have HCS : Hid (∀ wx ga gc, Ext wr wx → PairsAt wx (.slice ga (revL k ps).length gc) (revL k ps) → Calls Tryd.prog 25 #[.agg #[.int .i64 (k : Int), .slice ga (revL k ps).length gc]] wx fun e w'' => ∃ u, e = .returned u ∧ Ext wr w'' ∧ Grows wx w'' ∧ Own.relR (Own.rA (Own.isSets 0 k (attB (revL k ps)))) wx u w'') := fun wx ga gc hC hp => Own.callA hC ((attackedSets_any k _ (revL k ps) wx hp HRK.out (by rw [HRL.out]; have := HLN.out; omega)).mono fun e w'' ⟨b, he, hbb, hs, hb⟩ => ⟨_, he, ⟨b, rfl, Nat.zero_le _, hs⟩, hb⟩)
      have HCO2 : Hid (∀ wx rb, Ext wr wx → SetsAt wx rb k (attB (revL k ps)) → Calls Tryd.prog 27 #[.slice ca cs.length cc, .slice (some ⟨rb, 0, none⟩) k k] wx fun e w'' => ∃ u, e = .returned u ∧ Ext wr w'' ∧ Grows wx w'' ∧ Own.relR (Own.rA (Own.isUs l)) wx u w'') := fun wx rb hC hs => Own.callA hC (by
        by_cases he : cs = []
        · have hl0 : l = [] := by
            have h1 := HSP.out
            rw [he] at h1
            have h2 := List.Perm.eq_nil h1
            have h3 := HORD.out
            rw [h2] at h3
            exact (Option.some.inj h3).symm
          have h4 := ordered_empty k rb ca cc wx (HEMP.out he)
          have e0 : cs.length = 0 := by rw [he]; rfl
          rw [e0]
          exact h4.mono fun e w'' ⟨h5, hb⟩ => ⟨_, h5, ⟨none, 0, by rw [hl0]; rfl, .inl hl0⟩, hb⟩
        · exact (ordered_any k rb (attB (revL k ps)) ca cc cs sorted l wx (HUC.out.go hC) he HCL.out hs (HTR.out.go hC) HSETS.out HSP.out HSPW.out HORD.out).mono fun e w'' ⟨ua, uc, h5, h6, hb⟩ => ⟨_, h5, ⟨ua, uc, rfl, h6⟩, hb⟩)
      clear hcs HRK HRL
      generalize revL k ps = rv at *
      go_wp2_with fail
      have X0 : ∀ wx, Ext wr wx → wx.cell? ⟨w.heap.size, 0, none⟩ = some (.int .i64 (k : Int)) := fun wx hC => ext_cell x0 lx hC
      have X1 : ∀ wx, Ext wr wx → wx.cell? ⟨w.heap.size, 1, none⟩ = some (.slice a' ps.length c') := fun wx hC => ext_cell x1 lx hC
      have B3 : ∀ wx, Ext wr wx → wx.cell? ⟨nb, 3, none⟩ = some (.slice ca cs.length cc) := fun wx hC => ext_cell b3 lb hC
      haveI : Nonempty (In (Ext wr)) := Ext.nonempty wr
      refine Own.wp_region_rel (Ext wr) Grows (Own.relTab [(33, Own.rA (Own.isGr (k : Int) (rv))), (34, Own.rA (Own.isSets 0 k (attB (rv)))), (35, Own.rA (Own.isUs l))]) (by kernel_rfl) (by kernel_rfl) (by kernel_rfl) (Own.stableO_cons (Own.isGr_up _ _) (Own.stableO_cons (Own.isSets_up _ _ _) (Own.stableO_cons (Own.isUs_up _) (Own.stableO_nil _)))) (Ext.start wr) ?_
      repeat (
        refine' Own.walkR_plain (by kernel_rfl) rfl rfl (fun wx hC hL => ?_) ?_
        rotate_left
        · (have hlw := Below.size hC
           have hlw1 := Nat.lt_of_lt_of_le lx hlw
           have hlw2 := Nat.lt_of_lt_of_le lb hlw
           simp only [X0 wx hC, X1 wx hC, B3 wx hC, hlw1, hlw2, go_sem]; first | done | (go_simp; exact ⟨rfl, rfl⟩))
        simp only [Act.put, List.setIfInBounds_toArray, List.set_cons_zero, List.set_cons_succ])
      refine Own.walkR_rel (by kernel_rfl) rfl rfl (of_decide_eq_true (by kernel_rfl)) (fun wx hC hL => ?_) (fun v hv => ?_)
      · go_simp
        exact HCG.out wx hC
      obtain ⟨_, _, ga, gc, rfl, -⟩ := hv
      simp only [Act.put, List.setIfInBounds_toArray, List.set_cons_zero, List.set_cons_succ]
      refine Own.walkR_rel (by kernel_rfl) rfl rfl (of_decide_eq_true (by kernel_rfl)) (fun wx hC hL => ?_) (fun v hv => ?_)
      · have h33 : Own.isGr (k : Int) (rv) (.agg #[.int .i64 (k : Int), .slice ga rv.length gc]) wx := hL.get 33 (by simp [Own.more]) (by kernel_rfl) rfl rfl
        have HPW : Hid (PairsAt wx (.slice ga rv.length gc) rv) := by
          obtain ⟨ga', gc', he, hp⟩ := h33
          injection he with he
          have he2 : (Value.slice ga rv.length gc) = Value.slice ga' rv.length gc' := (List.cons.inj (List.cons.inj (congrArg Array.toList he)).2).1
          show PairsAt _ _ _
          rw [he2]
          exact hp
        clear h33
        go_simp
        exact HCS.out wx ga gc hC HPW.out
      obtain ⟨_, _, rb, rfl, -, -⟩ := hv
      simp only [Act.put, List.setIfInBounds_toArray, List.set_cons_zero, List.set_cons_succ]
      refine Own.walkR_rel (by kernel_rfl) rfl rfl (of_decide_eq_true (by kernel_rfl)) (fun wx hC hL => ?_) (fun v hv => ?_)
      · have h34 : Own.isSets 0 k (attB (rv)) (.slice (some ⟨rb, 0, none⟩) k k) wx := hL.get 34 (by simp [Own.more]) (by kernel_rfl) rfl rfl
        have HSW : Hid (SetsAt wx rb k (attB rv)) := by
          obtain ⟨rb', he, -, hs⟩ := h34
          injection he with he
          injection he with he
          injection he with he
          subst he
          exact hs
        clear h34
        go_simp
        exact HCO2.out wx rb hC HSW.out
      obtain ⟨_, _, ua, uc, rfl, -⟩ := hv
      simp only [Act.put, List.setIfInBounds_toArray, List.set_cons_zero, List.set_cons_succ]
      repeat (
        refine' Own.walkR_plain (by kernel_rfl) rfl rfl (fun wx hC hL => ?_) ?_
        rotate_left
        · (have hlw := Below.size hC
           have hlw1 := Nat.lt_of_lt_of_le lx hlw
           have hlw2 := Nat.lt_of_lt_of_le lb hlw
           simp only [X0 wx hC, X1 wx hC, B3 wx hC, hlw1, hlw2, go_sem]; first | done | (go_simp; exact ⟨rfl, rfl⟩))
        simp only [Act.put, List.setIfInBounds_toArray, List.set_cons_zero, List.set_cons_succ])
      refine fun w10 hC10 hK => ?_
      have HUA : Hid (UC w10 ua l) := by
        obtain ⟨ua', uc', he, hu⟩ : Own.isUs l (.slice ua l.length uc) w10 := hK.get 35 (by simp [Own.more]) rfl rfl
        injection he with he
        subst he
        exact hu
      have HB10 := hidIt (HBR.out.trans (Below.mono hC10 HBR.out.size))
      have HT10 := hidIt (HTAB.out.go HB10.out)
      have HLL : Hid (l.length ≤ 1000) := by
        show _ ≤ _
        have hgen : ∀ (f : Nat) (r : List (BitVec 64)) (li : BitVec 64) (o : List (BitVec 64)), orderF (attB rv) f r li = some o → o.length ≤ f := by
          intro f
          induction f with
          | zero =>
            intro r li o h
            unfold orderF at h
            split at h
            · rw [← Option.some.inj h]; exact Nat.le_refl _
            · cases h
          | succ f ih =>
            intro r li o h
            by_cases hr : r = []
            · rw [orderF, if_pos hr] at h
              rw [← Option.some.inj h]
              exact Nat.zero_le _
            · obtain ⟨q, hq, -, o', ho', rfl⟩ := orderF_step hr h
              have := ih _ _ _ ho'
              simp only [List.length_cons]
              omega
        have h1 := hgen _ _ _ _ HORD.out
        have h2 := HSP.out.length_eq
        have h3 := HCL.out
        omega
      clear hK hC10 X0 X1 B3 HCG HCS HCO2 x0 x1 lx b0 b1 b2 b3 lb
      obtain ⟨M, hM⟩ : ∃ M, M = l.length := ⟨_, rfl⟩
      have HM := hidIt hM
      rw [← hM] at HLL ⊢
      clear hM
      have hMl := HLL.out
      go_wp2_with fail
      go_loopw [5, 7, 37] (fun v5 _ vj wr => ∃ (j : Nat) (la : Option Addr) (lc : Nat), v5 = .slice la j lc ∧ vj = .int .i64 (j : Int) ∧ j ≤ M ∧ Hid (OwnLL wr w10.heap.size (.slice la j lc) (listsOf (l.take j))) ∧ Hid (Below w10.heap.size w10 wr)) (fun _ _ vj _ => M - (intOf vj).toNat)
      case atStart => exact ⟨0, none, 0, (by first | rfl | trivial), (by first | rfl | trivial), Nat.zero_le _, OwnLL.nil _ _, Below.refl _ _⟩
      case round =>
        obtain ⟨j, la, lc, rfl, rfl, hj, HO, HBr⟩ := hrel
        have hjI0 : (0 : Int) ≤ (j : Int) := by omega
        by_cases hlt : j < M
        · have hjI : (j : Int) < (M : Int) := by omega
          have hjl : j < l.length := by rw [← HM.out]; exact hlt
          obtain ⟨ub, uo, rfl, lu, hcs⟩ := (HUA.out.go HBr.out).at_ hjl
          have c0 := hcs j hjl
          have HST : Hid (listsOf (l.take (j + 1)) = listsOf (l.take j) ++ [ints (members l[j])]) := by
            show _ = _
            unfold listsOf
            rw [List.take_succ_eq_append_getElem hjl, List.map_append]
            rfl
          have HTL : Hid ((listsOf (l.take j)).length = j) := by show _ = _; unfold listsOf; rw [List.length_map, List.length_take]; omega
          generalize l[j] = cs2 at *
          clear hcs
          have HTr := hidIt (HT10.out.go HBr.out)
          go_wp2_with fail
          refine (elements_any cs2 _ HTr.out).mono ?_
          rintro e w11 ⟨ev, rfl, hoe, hb⟩
          obtain ⟨vals, hv1, hv2, hv3⟩ := HO.out.go hb
          obtain ⟨ea, ec, rfl, -⟩ := shape_own hoe
          rw [ints_len]
          rw [ints_len] at hoe
          have hg12 := bgrow w11 (.cells #[.slice ea (members cs2).length ec] 25)
          have HO12 := hidIt ((HO.out.go hb).go hg12)
          have HV1 : Hid (World.ownsRow (w11.alloc (.cells #[.slice ea (members cs2).length ec] 25)) w10.heap.size 25 1 (.slice la j lc) j vals) := by
            have := owns_kept hv1 fun g e => hg12.block g (owns_blk hv1 g e).2
            rw [HTL.out] at this
            exact this
          have HV2 := hidIt hv2
          have HV3 : Hid (∀ i (h : i < (listsOf (l.take j)).length), ∃ u, vals[i]? = some u ∧ OwnI (w11.alloc (.cells #[.slice ea (members cs2).length ec] 25)) w10.heap.size u (listsOf (l.take j))[i]) := fun i hi => by
            obtain ⟨u, hu, ho⟩ := hv3 i hi
            exact ⟨u, hu, ho.go hg12⟩
          have HOE : Hid (OwnI (w11.alloc (.cells #[.slice ea (members cs2).length ec] 25)) w10.heap.size (.slice ea (members cs2).length ec) (ints (members cs2))) := owns_mono (OwnI.go hoe hg12) HBr.out.size
          have HB12 := hidIt ((HBr.out.trans (Below.mono hb HBr.out.size)).trans (Below.mono hg12 (Nat.le_trans HBr.out.size hb.size)))
          have hsz12 : w10.heap.size ≤ (w11.alloc (.cells #[.slice ea (members cs2).length ec] 25)).heap.size := HB12.out.size
          clear hv1 hv2 hv3 hoe hb hg12 HO HBr c0 lu HTr
          go_wp2_with (at_builtin; refine Hid.out ?_)
          refine hidIt ?_
          refine wpList_append_kb rfl _ _ elemLL rfl w10.heap.size (.slice la j lc) j _ rfl HV1.out _ 1 rfl #[.slice ea (members cs2).length ec] 25 (heap_alloc_new _ _) rfl (one_of (by rfl)) (by omega) hsz12 ?_
          intro g8 c8 w13 hown8 hg8 hbl8
          have HON : Hid (OwnLL w13 w10.heap.size (.slice (some ⟨g8, 0, none⟩) (j + 1) c8) (listsOf (l.take (j + 1)))) := by
            show OwnLL _ _ _ _
            rw [HST.out]
            exact OwnLL.app HO12.out HOE.out vals (by rw [HTL.out]; exact HV1.out) HV2.out HV3.out (by rw [HTL.out]; exact hown8) hg8
          have HBN := hidIt (below_app5 HB12.out hg8 (fun g e => (owns_blk HV1.out g e).1) hsz12)
          clear hown8 hg8 hbl8 HV1 HV2 HV3 HOE HO12 HB12 hsz12
          go_wp2_with fail
          go_roundw
          case rel => exact ⟨j + 1, some ⟨g8, 0, none⟩, c8, (by first | rfl | trivial), by go_num, by omega, HON.out, HBN.out⟩
          case measure => simp [intOf]; omega
        · have hjI : ¬ (j : Int) < (M : Int) := by omega
          have HE : Hid (l.take j = l) := List.take_of_length_le (by rw [← HM.out]; omega)
          rw [HE.out] at HO
          have HLO := hidIt HO.out.ll
          have HBF := hidIt (HB10.out.trans (Below.mono HBr.out HB10.out.size))
          go_wp2_with fail
          go_ret
          exact ⟨_, rfl, HLO.out, HBF.out⟩
end Go.Proofs.YtcelijjohcfhkaaDoor

namespace Go.Proofs.YtcelijjohcfhkaaDoor
set_option linter.unusedVariables false
set_option linter.unusedSimpArgs false
open Go Go.RowKit Go.Sort

theorem LL.lc {w : World} {v : Value} {zss : List (List Int)} (h : LL w v zss) : ∃ (a : Option Addr) (c : Nat), v = .slice a zss.length c ∧
    (∀ i (h : i < zss.length), ∃ b off ua un uc, a = some ⟨b, off, none⟩ ∧ b < w.heap.size ∧ w.cell? ⟨b, off + i, none⟩ = some (.slice ua un uc) ∧ IL w (.slice ua un uc) zss[i]) := by
  obtain ⟨a, c, rfl, hf⟩ := h.form
  refine ⟨a, c, rfl, fun i hi => ?_⟩
  obtain ⟨b, off, u, h1, h2, h3, h4⟩ := hf i hi
  obtain ⟨ua, uc, rfl, -⟩ := h4.ic
  exact ⟨b, off, ua, _, uc, h1, h2, h3, h4⟩

set_option maxRecDepth 100000 in
set_option maxHeartbeats 2000000 in
/-- Are two lists of lists equal? -/
theorem kLists_any (v1 v2 : Value) (xs ys : List (List Int)) (w : World) (h1 : LL w v1 xs) (h2 : LL w v2 ys) (hn : xs.length ≤ 1000) (hm : ys.length ≤ 1000) (hx : ∀ x ∈ xs, x.length ≤ 1000) (hy : ∀ y ∈ ys, y.length ≤ 1000) :
    Calls Tryd.prog 9 #[v1, v2] w fun e w' => e = .returned (.bool (decide (xs = ys))) ∧ Below w.heap.size w w' := by
  obtain ⟨a1, c1, rfl, k1⟩ := h1.lc
  obtain ⟨a2, c2, rfl, k2⟩ := h2.lc
  have K1 := hidIt k1
  have K2 := hidIt k2
  have HXX := hidIt hx
  have HYY := hidIt hy
  clear k1 k2 h1 h2 hx hy
  by_cases hl : xs.length = ys.length
  rotate_left
  · have hlb : ((xs.length : Int) != (ys.length : Int)) = true := bne_iff_ne.2 (by omega)
    go_enter Tryd.func9, Tryd.ntmps9
    go_wp2_with fail
    go_ret
    exact ⟨ret_bool (by rw [decide_eq_false (fun e => hl (by rw [e]))]), Below.refl _ _⟩
  have HL := hidIt hl
  have hlb : ((xs.length : Int) != (ys.length : Int)) = false := by rw [hl]; exact bne_self_eq_false _
  clear hl
  obtain ⟨L, hL⟩ : ∃ L, L = ys.length := ⟨_, rfl⟩
  have HY := hidIt hL
  rw [← hL] at HL hlb hm ⊢
  obtain ⟨M, hM⟩ : ∃ M, M = xs.length := ⟨_, rfl⟩
  have HX := hidIt hM
  rw [← hM] at HL hlb hn ⊢
  clear hL hM
  go_enter Tryd.func9, Tryd.ntmps9
  go_wp2_with fail
  go_loopw [5, 13] (fun _ i wr => ∃ k : Nat, k ≤ M ∧ i = .int .i64 k ∧ Hid (Below w.heap.size w wr) ∧ Hid (xs.take k = ys.take k)) (fun _ i _ => M - (intOf i).toNat)
  case atStart => exact ⟨0, Nat.zero_le _, (by first | rfl | trivial), Below.refl _ _, (rfl : _ = _)⟩
  case round =>
    obtain ⟨k, hk, rfl, HB, HT⟩ := hrel
    have hkI0 : (0 : Int) ≤ (k : Int) := by omega
    by_cases hlt : k < M
    · have hkI : (k : Int) < (M : Int) := by omega
      have hkL : (k : Int) < (L : Int) := by have := HL.out; omega
      have HLX : Hid (k < xs.length) := by show k < _; rw [← HX.out]; exact hlt
      have HLY : Hid (k < ys.length) := by show k < _; rw [← HY.out, ← HL.out]; exact hlt
      obtain ⟨b1, o1, ua1, un1, uc1, rfl, l1, p0, i1⟩ := K1.out k HLX.out
      obtain ⟨b2, o2, ua2, un2, uc2, rfl, l2, q0, i2⟩ := K2.out k HLY.out
      have lx := HXX.out _ (List.getElem_mem HLX.out)
      have ly := HYY.out _ (List.getElem_mem HLY.out)
      obtain ⟨x, hx⟩ : ∃ x, x = xs[k]'HLX.out := ⟨_, rfl⟩
      obtain ⟨y, hy⟩ : ∃ y, y = ys[k]'HLY.out := ⟨_, rfl⟩
      rw [← hx] at i1 lx
      rw [← hy] at i2 ly
      have EX := hidIt hx
      have EY := hidIt hy
      clear hx hy
      have p1 := (Below.cell (p := ⟨b1, o1 + k, none⟩) HB.out l1).trans p0
      have q1 := (Below.cell (p := ⟨b2, o2 + k, none⟩) HB.out l2).trans q0
      have P1 := fun y => Ext.cell p1 y
      have Q1 := fun y => Ext.cell q1 y
      have HCA : Hid (∀ wx : World, Ext wr wx → Calls Tryd.prog 23 #[.slice ua1 un1 uc1, .slice ua2 un2 uc2] wx fun e w' => e = .returned (.bool (decide (x = y))) ∧ Below wx.heap.size wx w') := fun wx hC =>
        kInts_any _ _ x y wx ((i1.below HB.out).below hC) ((i2.below HB.out).below hC) (by omega) (by omega)
      clear p0 q0 p1 q1 i1 i2 l1 l2 lx ly
      by_cases he : x = y
      · rw [decide_eq_true he] at HCA
        have HE := hidIt he
        clear he
        go_wp2_with fail
        haveI := Ext.nonempty wr
        refine wp_region_in (Ext wr) (by kernel_rfl) (by kernel_rfl) (Ext.start wr) ?_
        repeat (go_big_quiet_step ((go_at_call 23; refine Ext.call (HCA.out _ (In.h _)))))
        refine wpQuiet_nil ?_
        rintro w5 ⟨⟨_, h5⟩, rfl⟩
        have HB5 := hidIt (HB.out.trans (Below.mono h5 HB.out.size))
        clear h5 P1 Q1
        go_wp2_with fail
        go_roundw
        case rel => exact ⟨k + 1, by omega, by go_num, HB5.out, take_step HT.out HLX.out HLY.out (by rw [← EX.out, ← EY.out]; exact HE.out)⟩
        case measure => simp [intOf]; omega
      · rw [decide_eq_false he] at HCA
        have HE := hidIt he
        clear he
        go_wp2_with fail
        haveI := Ext.nonempty wr
        refine wp_region_in (Ext wr) (by kernel_rfl) (by kernel_rfl) (Ext.start wr) ?_
        repeat (go_big_quiet_step ((go_at_call 23; refine Ext.call (HCA.out _ (In.h _)))))
        refine wpQuiet_nil ?_
        rintro w5 ⟨⟨_, h5⟩, rfl⟩
        have HB5 := hidIt (HB.out.trans (Below.mono h5 HB.out.size))
        clear h5 P1 Q1
        go_wp2_with fail
        go_ret
        exact ⟨ret_bool (by rw [decide_eq_false (take_neq (k := k) HLX.out HLY.out (by rw [← EX.out, ← EY.out]; exact HE.out))]), HB5.out⟩
    · have hkI : ¬ (k : Int) < (M : Int) := by omega
      have HEQ : Hid (xs = ys) := take_all HT.out (by rw [← HX.out]; omega) (by rw [← HY.out, ← HL.out]; omega)
      go_wp2_with fail
      go_ret
      exact ⟨ret_bool (by rw [decide_eq_true HEQ.out]), HB.out⟩

/-! The chapter's example. -/
def exP : List (Int × Int) := [(0, 1), (1, 0), (1, 2), (3, 3)]
theorem ex_val : valE 4 exP = 0 := by decide
theorem ex_vN : vN 4 exP = 4 := by unfold vN; rw [if_pos ex_val]
theorem ex_vL : vL 4 exP = exP := by unfold vL; rw [if_pos ex_val]
theorem ex_run : (runF (attB exP) 4 4).comps = [4#64, 3#64, 8#64] := by decide +kernel
theorem ex_ord : orderF (attB (revL 4 exP)) 3 [3#64, 4#64, 8#64] 0#64 = some [3#64, 4#64, 8#64] := by decide +kernel
theorem ex_ctz : ctzB 3#64 = 0 ∧ ctzB 4#64 = 2 ∧ ctzB 8#64 = 3 := by decide +kernel
theorem ex_comp : CompOk 4 exP [3#64, 4#64, 8#64] := by
  refine ⟨[3#64, 4#64, 8#64], ?_, ?_, ex_ord⟩
  · rw [ex_run]
    decide +kernel
  · obtain ⟨h1, h2, h3⟩ := ex_ctz
    simp [h1, h2, h3]
theorem ex_lists : listsOf [3#64, 4#64, 8#64] = [[0, 1], [2], [3]] := by decide +kernel
theorem ex_indN : indN 4 [2, 1] = 2 := by decide +kernel
theorem ex_indL : indL 4 exP [2, 1] = [(0, 1)] := by decide +kernel
theorem ex_not3 : ∀ k, Rch exP 0 k → k ≠ 3 := by
  intro k h
  induction h with
  | here => decide
  | step _ hm ih =>
    rename_i a b _
    simp only [exP, List.mem_cons, Prod.mk.injEq, List.not_mem_nil, or_false] at hm
    omega
theorem ex_reach : reachL 4 exP 0 = [0, 1, 2] := by
  have h0 : rchB exP 0 0 = true := rchB_iff.2 .here
  have h1 : rchB exP 0 1 = true := rchB_iff.2 (.step .here (by decide))
  have h2 : rchB exP 0 2 = true := rchB_iff.2 (.step (rchB_iff.1 h1) (by decide))
  have h3 : rchB exP 0 3 = false := by
    rw [Bool.eq_false_iff]
    intro h
    exact ex_not3 3 (rchB_iff.1 h) rfl
  unfold reachL reachN
  rw [if_pos (by decide)]
  show ints ([0, 1, 2, 3].filter (rchB exP (0 : Int).toNat)) = _
  simp [h0, h1, h2, h3, ints]
end Go.Proofs.YtcelijjohcfhkaaDoor

namespace Go.Proofs.YtcelijjohcfhkaaDoor
set_option linter.unusedVariables false
set_option linter.unusedSimpArgs false
open Go Go.RowKit Go.Sort

theorem pairs_blk {w : World} {b c : Nat} {ps : List (Int × Int)} {t : TypeId} (h : w.heap[b]? = some (.cells (ps.flatMap encP).toArray t (0, 0))) (hc : ps.length ≤ c) (hm : c ≤ maxLen) : PairsAt w (.slice (some ⟨b, 0, none⟩) ps.length c) ps := by
  refine .inr ⟨b, 0, c, rfl, hc, hm, lt_of_block h, fun i hi => ?_⟩
  have e0 := flatMap_get ps (i * 2) (by omega)
  have e1 := flatMap_get ps (i * 2 + 1) (by omega)
  rw [show i * 2 / 2 = i by omega, show i * 2 % 2 = 0 by omega] at e0
  rw [show (i * 2 + 1) / 2 = i by omega, show (i * 2 + 1) % 2 = 1 by omega] at e1
  constructor
  · simp [World.cell?, h, e0, encP]
  · simp [World.cell?, h, e1, encP]
theorem ints_blk {w : World} {b c : Nat} {zs : List Int} {t : TypeId} (h : w.heap[b]? = some (.cells (zs.map (Value.int .i64)).toArray t (0, 0))) (hc : zs.length ≤ c) (hm : c ≤ maxLen) : IL w (.slice (some ⟨b, 0, none⟩) zs.length c) zs :=
  .inr ⟨b, 0, c, rfl, hc, hm, lt_of_block h, fun i hi => by simp [World.cell?, h, hi]⟩

/-- The three lists of the example, as the law lays them. -/
theorem lits3 (w : World) : LL ((((w.alloc (.cells #[.int .i64 0, .int .i64 1] 3)).alloc (.cells #[.int .i64 2] 3)).alloc (.cells #[.int .i64 3] 3)).alloc (.cells #[.slice (some ⟨w.heap.size, 0, none⟩) 2 2, .slice (some ⟨w.heap.size + 1, 0, none⟩) 1 1, .slice (some ⟨w.heap.size + 1 + 1, 0, none⟩) 1 1] 25)) (.slice (some ⟨w.heap.size + 1 + 1 + 1, 0, none⟩) 3 3) [[0, 1], [2], [3]] ∧
    Below w.heap.size w ((((w.alloc (.cells #[.int .i64 0, .int .i64 1] 3)).alloc (.cells #[.int .i64 2] 3)).alloc (.cells #[.int .i64 3] 3)).alloc (.cells #[.slice (some ⟨w.heap.size, 0, none⟩) 2 2, .slice (some ⟨w.heap.size + 1, 0, none⟩) 1 1, .slice (some ⟨w.heap.size + 1 + 1, 0, none⟩) 1 1] 25)) := by
  have g1 := bgrow w (.cells #[.int .i64 0, .int .i64 1] 3)
  have i1 := ints_blk (zs := [0, 1]) (c := 2) (heap_alloc_new w (.cells #[.int .i64 0, .int .i64 1] 3)) (by decide) (by decide)
  have s1 : (w.alloc (.cells #[.int .i64 0, .int .i64 1] 3)).heap.size = w.heap.size + 1 := World.size_alloc ..
  generalize w.alloc (.cells #[.int .i64 0, .int .i64 1] 3) = w1 at *
  have g2 := bgrow w1 (.cells #[.int .i64 2] 3)
  have i2 := ints_blk (zs := [2]) (c := 1) (heap_alloc_new w1 (.cells #[.int .i64 2] 3)) (by decide) (by decide)
  have s2 : (w1.alloc (.cells #[.int .i64 2] 3)).heap.size = w1.heap.size + 1 := World.size_alloc ..
  have i12 := i1.below g2
  generalize w1.alloc (.cells #[.int .i64 2] 3) = w2 at *
  have g3 := bgrow w2 (.cells #[.int .i64 3] 3)
  have i3 := ints_blk (zs := [3]) (c := 1) (heap_alloc_new w2 (.cells #[.int .i64 3] 3)) (by decide) (by decide)
  have s3 : (w2.alloc (.cells #[.int .i64 3] 3)).heap.size = w2.heap.size + 1 := World.size_alloc ..
  have i13 := i12.below g3
  have i23 := i2.below g3
  generalize w2.alloc (.cells #[.int .i64 3] 3) = w3 at *
  rw [s2, s1] at i3
  rw [s1] at i23
  have g4 := bgrow w3 (.cells #[.slice (some ⟨w.heap.size, 0, none⟩) 2 2, .slice (some ⟨w.heap.size + 1, 0, none⟩) 1 1, .slice (some ⟨w.heap.size + 1 + 1, 0, none⟩) 1 1] 25)
  have h4 := heap_alloc_new w3 (.cells #[.slice (some ⟨w.heap.size, 0, none⟩) 2 2, .slice (some ⟨w.heap.size + 1, 0, none⟩) 1 1, .slice (some ⟨w.heap.size + 1 + 1, 0, none⟩) 1 1] 25)
  rw [s3, s2, s1] at h4
  refine ⟨.inr ⟨w.heap.size + 1 + 1 + 1, 0, 3, rfl, by decide, by decide, lt_of_block h4, fun i hi => ?_⟩, g1.trans (Below.mono (g2.trans (Below.mono (g3.trans (Below.mono g4 g3.size)) g2.size)) g1.size)⟩
  match i, hi with
  | 0, _ => exact ⟨_, by simp [World.cell?, h4], i13.below g4⟩
  | 1, _ => exact ⟨_, by simp [World.cell?, h4], i23.below g4⟩
  | 2, _ => exact ⟨_, by simp [World.cell?, h4], i3.below g4⟩

set_option maxRecDepth 100000 in
set_option maxHeartbeats 4000000 in
theorem awake10 (w : World) (hT : Tab w) : Calls Tryd.prog 17 #[] w fun e w' => e = .returned (.bool true) ∧ Below w.heap.size w w' := by
  have HT := hidIt hT
  have hg1 := bgrow w (.cells #[.int .i64 0, .int .i64 1, .int .i64 1, .int .i64 0, .int .i64 1, .int .i64 2, .int .i64 3, .int .i64 3] 43)
  have hP1 := pairs_blk (ps := exP) (c := 4) (heap_alloc_new w (.cells #[.int .i64 0, .int .i64 1, .int .i64 1, .int .i64 0, .int .i64 1, .int .i64 2, .int .i64 3, .int .i64 3] 43)) (by decide) (by decide)
  have hg2 := bgrow (w.alloc (.cells #[.int .i64 0, .int .i64 1, .int .i64 1, .int .i64 0, .int .i64 1, .int .i64 2, .int .i64 3, .int .i64 3] 43)) (.cells #[.int .i64 4, .slice (some ⟨w.heap.size, 0, none⟩) 4 4] 24)
  have HP2 : Hid (PairsAt ((w.alloc (.cells #[.int .i64 0, .int .i64 1, .int .i64 1, .int .i64 0, .int .i64 1, .int .i64 2, .int .i64 3, .int .i64 3] 43)).alloc (.cells #[.int .i64 4, .slice (some ⟨w.heap.size, 0, none⟩) 4 4] 24)) (.slice (some ⟨w.heap.size, 0, none⟩) 4 4) exP) := hP1.below hg2
  have hX2 := heap_alloc_new (w.alloc (.cells #[.int .i64 0, .int .i64 1, .int .i64 1, .int .i64 0, .int .i64 1, .int .i64 2, .int .i64 3, .int .i64 3] 43)) (.cells #[.int .i64 4, .slice (some ⟨w.heap.size, 0, none⟩) 4 4] 24)
  rw [World.size_alloc] at hX2
  have HX2 := hidIt hX2
  have HB2 := hidIt (hg1.trans (Below.mono hg2 hg1.size))
  clear hg1 hP1 hg2 hX2 hT
  go_enter Tryd.func17, Tryd.ntmps17
  go_upto_region 2 with (fail)
  generalize ((w.alloc (.cells #[.int .i64 0, .int .i64 1, .int .i64 1, .int .i64 0, .int .i64 1, .int .i64 2, .int .i64 3, .int .i64 3] 43)).alloc (.cells #[.int .i64 4, .slice (some ⟨w.heap.size, 0, none⟩) 4 4] 24)) = w2 at *
  obtain ⟨P, hP⟩ : ∃ P, P = w.heap.size + 1 := ⟨_, rfl⟩
  rw [← hP] at HX2 ⊢
  clear hP
  obtain ⟨Q, hQ⟩ : ∃ Q, Q = w.heap.size := ⟨_, rfl⟩
  rw [← hQ] at HX2 HP2 ⊢
  have HQ := hidIt hQ
  clear hQ
  obtain ⟨x0, x1⟩ := And.intro (cell_two0 HX2.out) (cell_two1 HX2.out)
  have lx := lt_of_block HX2.out
  have hg3 := bgrow w2 (.cells #[.int .i64 2, .int .i64 1] 3)
  have HI3 := hidIt (ints_blk (zs := [2, 1]) (c := 2) (heap_alloc_new w2 (.cells #[.int .i64 2, .int .i64 1] 3)) (by decide) (by decide))
  have HP3 := hidIt (HP2.out.below hg3)
  have HX3 := hidIt (blk_kept2 HX2.out hg3)
  have HB3 := hidIt (HB2.out.trans (Below.mono hg3 HB2.out.size))
  clear hg3
  go_wp2_with fail
  refine (gInduced_any 4 _ _ exP [2, 1] _ HP3.out (by decide) HI3.out (by decide)).mono ?_
  rw [ex_vN, ex_vL, ex_indN, ex_indL]
  rintro e w4 ⟨v4, rfl, hp4o, hb4⟩
  have hp4 := hp4o.lits
  clear hp4o
  obtain ⟨a4, c4, rfl, -⟩ := hp4.form
  have hg5 := bgrow w4 (.cells #[.int .i64 2, .slice a4 1 c4] 24)
  have HH5 : Hid (PairsAt (w4.alloc (.cells #[.int .i64 2, .slice a4 1 c4] 24)) (.slice a4 1 c4) [(0, 1)]) := hp4.below hg5
  have HP5 := hidIt ((HP3.out.below hb4).below hg5)
  have HX5 := hidIt (blk_kept2 (blk_kept2 HX3.out hb4) hg5)
  have HY5 := hidIt (heap_alloc_new w4 (.cells #[.int .i64 2, .slice a4 1 c4] 24))
  have HB5 := hidIt ((HB3.out.trans (Below.mono hb4 HB3.out.size)).trans (Below.mono hg5 (Nat.le_trans HB3.out.size hb4.size)))
  clear hp4 hb4 hg5 HP3 HX3 HB3 HI3 HP2 HX2 HB2 x0 x1 lx
  go_upto_region 3 with (fail)
  generalize (w4.alloc (.cells #[.int .i64 2, .slice a4 1 c4] 24)) = w5 at *
  generalize w4.heap.size = R at *
  obtain ⟨x0, x1⟩ := And.intro (cell_two0 HX5.out) (cell_two1 HX5.out)
  have lx := lt_of_block HX5.out
  go_wp2_with fail
  refine (gValidate_any 4 _ exP _ HP5.out (by decide)).mono ?_
  rw [ex_val]
  rintro e w6 ⟨rfl, hb6⟩
  have HP6 := hidIt (HP5.out.below hb6)
  have HH6 := hidIt (HH5.out.below hb6)
  have HX6 := hidIt (blk_kept2 HX5.out hb6)
  have HY6 := hidIt (blk_kept2 HY5.out hb6)
  have HB6 := hidIt (HB5.out.trans (Below.mono hb6 HB5.out.size))
  have HT6 := hidIt (HT.out.go HB6.out)
  clear hb6 HP5 HH5 HX5 HY5 HB5 x0 x1 lx
  obtain ⟨x0, x1⟩ := And.intro (cell_two0 HX6.out) (cell_two1 HX6.out)
  have lx := lt_of_block HX6.out
  go_wp2_with fail
  refine (gComponents_any 4 _ exP [3#64, 4#64, 8#64] _ HP6.out (by decide) HT6.out (by rw [ex_vN, ex_vL]; exact ex_comp)).mono ?_
  rw [ex_lists]
  rintro e w7 ⟨v7, rfl, hl7, hb7⟩
  obtain ⟨a7, c7, rfl, -⟩ := hl7.lc
  have HL7 := hidIt hl7
  have HP7 := hidIt (HP6.out.below hb7)
  have HH7 := hidIt (HH6.out.below hb7)
  have HX7 := hidIt (blk_kept2 HX6.out hb7)
  have HY7 := hidIt (blk_kept2 HY6.out hb7)
  have HB7 := hidIt (HB6.out.trans (Below.mono hb7 HB6.out.size))
  clear hb7 hl7 HP6 HH6 HX6 HY6 HB6 x0 x1 lx
  obtain ⟨hll, hbb⟩ := lits3 w7
  have HLL8 := hidIt hll
  have HL8 := hidIt (HL7.out.below hbb)
  have HP8 := hidIt (HP7.out.below hbb)
  have HH8 := hidIt (HH7.out.below hbb)
  have HX8 := hidIt (blk_kept2 HX7.out hbb)
  have HY8 := hidIt (blk_kept2 HY7.out hbb)
  have HB8 := hidIt (HB7.out.trans (Below.mono hbb HB7.out.size))
  clear hll hbb HL7 HP7 HH7 HX7 HY7 HB7
  go_wp2_with fail
  generalize ((((w7.alloc (.cells #[.int .i64 0, .int .i64 1] 3)).alloc (.cells #[.int .i64 2] 3)).alloc (.cells #[.int .i64 3] 3)).alloc (.cells #[.slice (some ⟨w7.heap.size, 0, none⟩) 2 2, .slice (some ⟨w7.heap.size + 1, 0, none⟩) 1 1, .slice (some ⟨w7.heap.size + 1 + 1, 0, none⟩) 1 1] 25)) = w8 at *
  refine (kLists_any _ _ [[0, 1], [2], [3]] [[0, 1], [2], [3]] _ HL8.out HLL8.out (by decide) (by decide) (by decide) (by decide)).mono ?_
  rw [decide_eq_true rfl]
  rintro e w9 ⟨rfl, hb9⟩
  have HP9 := hidIt (HP8.out.below hb9)
  have HH9 := hidIt (HH8.out.below hb9)
  have HX9 := hidIt (blk_kept2 HX8.out hb9)
  have HY9 := hidIt (blk_kept2 HY8.out hb9)
  have HB9 := hidIt (HB8.out.trans (Below.mono hb9 HB8.out.size))
  have HT9 := hidIt (HT.out.go HB9.out)
  clear hb9 HL8 HLL8 HP8 HH8 HX8 HY8 HB8
  obtain ⟨x0, x1⟩ := And.intro (cell_two0 HX9.out) (cell_two1 HX9.out)
  have lx := lt_of_block HX9.out
  go_wp2_with fail
  refine (gReach_any 4 _ exP 0 _ HP9.out (by decide) HT9.out).mono ?_
  rw [ex_vN, ex_vL, ex_reach]
  rintro e w10 ⟨v10, rfl, hi10, hb10⟩
  obtain ⟨a10, c10, rfl, -⟩ := hi10.ic
  have hg11 := bgrow w10 (.cells #[.int .i64 0, .int .i64 1, .int .i64 2] 3)
  have HI11 := hidIt (ints_blk (zs := [0, 1, 2]) (c := 3) (heap_alloc_new w10 (.cells #[.int .i64 0, .int .i64 1, .int .i64 2] 3)) (by decide) (by decide))
  have HR11 := hidIt (hi10.below hg11)
  have HP11 := hidIt ((HP9.out.below hb10).below hg11)
  have HH11 := hidIt ((HH9.out.below hb10).below hg11)
  have HX11 := hidIt (blk_kept2 (blk_kept2 HX9.out hb10) hg11)
  have HY11 := hidIt (blk_kept2 (blk_kept2 HY9.out hb10) hg11)
  have HB11 := hidIt ((HB9.out.trans (Below.mono hb10 HB9.out.size)).trans (Below.mono hg11 (Nat.le_trans HB9.out.size hb10.size)))
  clear hi10 hb10 hg11 HP9 HH9 HX9 HY9 HB9 HT9 x0 x1 lx
  go_wp2_with fail
  generalize (w10.alloc (.cells #[.int .i64 0, .int .i64 1, .int .i64 2] 3)) = w11 at *
  refine (kInts_any _ _ [0, 1, 2] [0, 1, 2] _ HR11.out HI11.out (by decide) (by decide)).mono ?_
  rw [decide_eq_true rfl]
  rintro e w12 ⟨rfl, hb12⟩
  have hg13 := bgrow w12 (.cells #[.int .i64 0, .int .i64 1] 43)
  have HJ13 := hidIt (pairs_blk (ps := [(0, 1)]) (c := 1) (heap_alloc_new w12 (.cells #[.int .i64 0, .int .i64 1] 43)) (by decide) (by decide))
  have HP13 := hidIt ((HP11.out.below hb12).below hg13)
  have HH13 := hidIt ((HH11.out.below hb12).below hg13)
  have HX13 := hidIt (blk_kept2 (blk_kept2 HX11.out hb12) hg13)
  have HY12 := hidIt (blk_kept2 HY11.out hb12)
  have HB13 := hidIt ((HB11.out.trans (Below.mono hb12 HB11.out.size)).trans (Below.mono hg13 (Nat.le_trans HB11.out.size hb12.size)))
  clear hb12 hg13 HP11 HH11 HX11 HY11 HB11 HI11 HR11
  obtain ⟨y0, y1⟩ := And.intro (cell_two0 HY12.out) (cell_two1 HY12.out)
  have ly := lt_of_block HY12.out
  go_wp2_with fail
  generalize (w12.alloc (.cells #[.int .i64 0, .int .i64 1] 43)) = w13 at *
  refine (rgSame_any 2 2 _ _ [(0, 1)] [(0, 1)] _ HH13.out HJ13.out (by decide) (by decide)).mono ?_
  rw [show sameB 2 2 [(0, 1)] [(0, 1)] = true from by decide]
  rintro e w14 ⟨rfl, hb14⟩
  have HP14 := hidIt (HP13.out.below hb14)
  have HX14 := hidIt (blk_kept2 HX13.out hb14)
  have HB14 := hidIt (HB13.out.trans (Below.mono hb14 HB13.out.size))
  clear hb14 HP13 HH13 HX13 HB13 HJ13 HY12 y0 y1 ly
  obtain ⟨x0, x1⟩ := And.intro (cell_two0 HX14.out) (cell_two1 HX14.out)
  have lx := lt_of_block HX14.out
  go_wp2_with fail
  refine (gHas_any 4 _ exP 3 3 _ HP14.out (by decide)).mono ?_
  rw [show decide (((3, 3) : Int × Int) ∈ vL 4 exP) = true from by rw [ex_vL]; decide]
  rintro e w15 ⟨rfl, hb15⟩
  have HB15 := hidIt (HB14.out.trans (Below.mono hb15 HB14.out.size))
  clear hb15
  go_wp2_with fail
  go_ret
  exact ⟨rfl, HB15.out⟩
end Go.Proofs.YtcelijjohcfhkaaDoor
