/- Components, for every graph whose components the order's own search can list. -/
import Derived.Test.YtcelijjohcfhkaaDoorG1D
namespace Go.Proofs.YtcelijjohcfhkaaDoor
set_option linter.unusedVariables false
set_option linter.unusedSimpArgs false
open Go Go.RowKit Go.Sort

theorem set4 {w : World} {P : Nat} {u0 u1 u2 u3 x0 x1 x2 x3 : Value} {t : TypeId} (h : w.heap[P]? = some (.cells #[u0, u1, u2, u3] t (0, 0))) :
    ((((w.setCell ⟨P, 0, none⟩ x0).setCell ⟨P, 1, none⟩ x1).setCell ⟨P, 2, none⟩ x2).setCell ⟨P, 3, none⟩ x3).heap[P]? = some (.cells #[x0, x1, x2, x3] t (0, 0)) := by
  have h1 := set_cells (i := 0) (u := x0) h
  have h2 := set_cells (i := 1) (u := x1) h1
  have h3 := set_cells (i := 2) (u := x2) h2
  have h4 := set_cells (i := 3) (u := x3) h3
  simpa using h4
theorem types_ne {w : World} {a b : Nat} {ca cb : Array Value} {ta tb : TypeId} (h1 : w.heap[a]? = some (.cells ca ta (0, 0))) (h2 : w.heap[b]? = some (.cells cb tb (0, 0))) (ht : ta ≠ tb) : a ≠ b := fun e => by
  subst e
  rw [h1] at h2
  injection h2 with h2
  injection h2 with _ h3
  exact ht h3

set_option maxRecDepth 100000 in
set_option maxHeartbeats 8000000 in
theorem gComponents_any (n : Int) (v : Value) (xs : List (Int × Int)) (l : List (BitVec 64)) (w : World) (h : PairsAt w v xs) (hl : xs.length ≤ 1000) (hT : Tab w) (hco : CompOk (vN n xs).toNat (vL n xs) l) :
    Calls Tryd.prog 10 #[.agg #[.int .i64 n, v]] w fun e w' => ∃ v', e = .returned v' ∧ LL w' v' (listsOf l) ∧ Below w.heap.size w w' := by
  have HTAB := hidIt hT
  have hB := bgrow w (.cells #[.int .i64 n, v] 24)
  have h1 := h.below hB
  have HV := hidIt (h.valid n)
  obtain ⟨a, c, rfl, -⟩ := h.form
  have HX := hidIt (heap_alloc_new w (.cells #[.int .i64 n, .slice a xs.length c] 24))
  have HB := hidIt hB
  have H1 := hidIt h1
  have HL := hidIt hl
  have HOK := hidIt (v_ok n xs)
  have HCO := hidIt hco
  clear h h1 hB hl hT hco
  go_enter Tryd.func10, Tryd.ntmps10
  go_upto_region 1 with (fail)
  generalize (w.alloc (.cells #[.int .i64 n, .slice a xs.length c] 24)) = w1 at *
  obtain ⟨x0, x1⟩ := And.intro (cell_two0 HX.out) (cell_two1 HX.out)
  have lx := lt_of_block HX.out
  go_wp2_with fail
  refine (gvalid_any n _ xs _ H1.out (by have := HL.out; omega)).mono ?_
  rintro e w2 ⟨rfl, hb⟩
  have HX2 := hidIt (blk_kept2 HX.out hb)
  have HLN : Hid ((vL n xs).length ≤ 1000) := Nat.le_trans (vL_len n xs) HL.out
  have HB2 := hidIt (HB.out.trans (Below.mono hb HB.out.size))
  clear hb x0 x1 lx HX H1 HL HB
  generalize vL n xs = ps at *
  generalize vN n xs = m at *
  generalize vV n xs _ = v' at *
  obtain ⟨N, rfl⟩ : ∃ N : Nat, m = (N : Int) := ⟨m.toNat, by have := HOK.out.n0; omega⟩
  rw [Int.toNat_natCast] at HCO
  have hN : N ≤ 40 := by have := HOK.out.n40; omega
  obtain ⟨a', c', rfl, -⟩ := HV.out.form
  have HB3 := hidIt (below_set5 (i := 1) (u := .slice a' ps.length c') (below_set5 (i := 0) (u := .int .i64 (N : Int)) HB2.out (Nat.le_refl _)) (Nat.le_refl _))
  have HX3 := hidIt (box_set2 (x := .int .i64 (N : Int)) (y := .slice a' ps.length c') HX2.out)
  have HP3 := hidIt (HV.out.below HB3.out)
  obtain ⟨x0, x1⟩ := And.intro (cell_two0 HX2.out) (cell_two1 HX2.out)
  have lx := lt_of_block HX2.out
  have f0 := free_any HX2.out 0
  have f1 := free_any HX2.out 1
  go_upto_region 2 with (fail)
  generalize ((w2.setCell ⟨w.heap.size, 0, none⟩ (.int .i64 (N : Int))).setCell ⟨w.heap.size, 1, none⟩ (.slice a' ps.length c')) = w3 at *
  clear x0 x1 lx f0 f1 HX2 HB2
  obtain ⟨x0, x1⟩ := And.intro (cell_two0 HX3.out) (cell_two1 HX3.out)
  have lx := lt_of_block HX3.out
  have hXw3 := lx
  have X0 : ∀ wx, Ext w3 wx → wx.cell? ⟨w.heap.size, 0, none⟩ = some (.int .i64 (N : Int)) := fun wx hC => ext_cell x0 lx hC
  have X1 : ∀ wx, Ext w3 wx → wx.cell? ⟨w.heap.size, 1, none⟩ = some (.slice a' ps.length c') := fun wx hC => ext_cell x1 lx hC
  have HCA : Hid (∀ wx, Ext w3 wx → Calls Tryd.prog 25 #[.agg #[.int .i64 (N : Int), .slice a' ps.length c']] wx fun e w'' => ∃ u, e = .returned u ∧ Ext w3 w'' ∧ Grows wx w'' ∧ Own.relR (Own.rA (Own.isSets w3.heap.size N (attB ps))) wx u w'') := fun wx hC => Own.callA hC ((attackedSets_any N _ ps wx (HP3.out.below hC) HOK.out (by have := HLN.out; omega)).mono fun e w'' ⟨b, he, hbb, hs, hb⟩ => ⟨_, he, ⟨b, rfl, Nat.le_trans (Below.size hC) hbb, hs⟩, hb⟩)
  have hmk := fun w => make_ints N (by omega) w
  haveI : Nonempty (In (Ext w3)) := Ext.nonempty w3
  refine Own.wp_region_tail 7 (Ext w3) Grows (Own.relTab [(11, Own.rA (Own.isSets w3.heap.size N (attB ps))), (14, Own.rA (Own.isPl w3.heap.size N (fun _ => 0))), (3, Own.rA (Own.isNew w3.heap.size #[.slice none 0 0, .slice none 0 0, .slice none 0 0, .slice none 0 0] 52))]) (by kernel_rfl) (by kernel_rfl) (by kernel_rfl) (by kernel_rfl) (by kernel_rfl) (by kernel_rfl) (Own.stableO_cons (Own.isSets_up _ _ _) (Own.stableO_cons (Own.isPl_up _ _ _) (Own.stableO_cons (Own.isNew_up _ _ _) (Own.stableO_nil _)))) (Ext.start w3) ?_
  simp only [Own.idleTail]
  repeat (
    refine' Own.walkR_plain (by kernel_rfl) rfl rfl (fun wx hC hL => ?_) ?_
    rotate_left
    · (have hlw := Below.size hC
       have hlw1 := Nat.lt_of_lt_of_le lx hlw
       simp only [X0 wx hC, X1 wx hC, hlw1, go_sem]; first | done | (go_simp; exact ⟨rfl, rfl⟩))
    simp only [Act.put, List.setIfInBounds_toArray, List.set_cons_zero, List.set_cons_succ])
  refine Own.walkR_rel (by kernel_rfl) rfl rfl (of_decide_eq_true (by kernel_rfl)) (fun wx hC hL => ?_) (fun v hv => ?_)
  · go_simp
    exact HCA.out wx hC
  obtain ⟨_, _, ab, rfl, -, -⟩ := hv
  simp only [Act.put, List.setIfInBounds_toArray, List.set_cons_zero, List.set_cons_succ]
  repeat (
    refine' Own.walkR_plain (by kernel_rfl) rfl rfl (fun wx hC hL => ?_) ?_
    rotate_left
    · (have hlw := Below.size hC
       have hlw1 := Nat.lt_of_lt_of_le lx hlw
       simp only [X0 wx hC, X1 wx hC, hlw1, go_sem]; first | done | (go_simp; exact ⟨rfl, rfl⟩))
    simp only [Act.put, List.setIfInBounds_toArray, List.set_cons_zero, List.set_cons_succ])
  refine Own.walkR_rel (by kernel_rfl) rfl rfl (of_decide_eq_true (by kernel_rfl)) (fun wx hC hL => ?_) (fun v hv => ?_)
  · go_simp
    exact ⟨hC.grown (bgrow wx _), bgrow wx _, ⟨_, rfl, Below.size hC, heap_alloc_new _ _⟩, fun h => by cases h⟩
  obtain ⟨_, _, pb, rfl, -, -⟩ := hv
  simp only [Act.put, List.setIfInBounds_toArray, List.set_cons_zero, List.set_cons_succ]
  repeat (
    refine' Own.walkR_plain (by kernel_rfl) rfl rfl (fun wx hC hL => ?_) ?_
    rotate_left
    · (have hlw := Below.size hC
       have hlw1 := Nat.lt_of_lt_of_le lx hlw
       simp only [X0 wx hC, X1 wx hC, hlw1, go_sem]; first | done | (go_simp; exact ⟨rfl, rfl⟩))
    simp only [Act.put, List.setIfInBounds_toArray, List.set_cons_zero, List.set_cons_succ])
  refine Own.walkR_rel (by kernel_rfl) rfl rfl (of_decide_eq_true (by kernel_rfl)) (fun wx hC hL => ?_) (fun v hv => ?_)
  · go_simp
    exact ⟨hC.grown (bgrow wx _), bgrow wx _, ⟨_, rfl, Below.size hC, heap_alloc_new _ _⟩, fun h => by cases h⟩
  obtain ⟨_, _, nb, rfl, -, -⟩ := hv
  simp only [Act.put, List.setIfInBounds_toArray, List.set_cons_zero, List.set_cons_succ]
  refine Own.walkR_idle (fun wx _ => Below.refl _ _) ?_
  refine fun w7 hE7 hK => ?_
  obtain ⟨ab', e11, ha0, ha1⟩ : Own.isSets w3.heap.size N (attB ps) (.slice (some ⟨ab, 0, none⟩) N N) w7 := hK.get 11 (by simp [Own.more]) rfl rfl
  obtain ⟨pb', e14, hp0, hp1⟩ : Own.isPl w3.heap.size N (fun _ => 0) (.slice (some ⟨pb, 0, none⟩) N N) w7 := hK.get 14 (by simp [Own.more]) rfl rfl
  obtain ⟨nb', e3, hn0, hn1⟩ : Own.isNew w3.heap.size #[.slice none 0 0, .slice none 0 0, .slice none 0 0, .slice none 0 0] 52 (.pointer (some ⟨nb, 0, none⟩)) w7 := hK.get 3 (by simp [Own.more]) rfl rfl
  injection e11 with e11
  injection e11 with e11
  injection e11 with e11
  subst e11
  injection e14 with e14
  injection e14 with e14
  injection e14 with e14
  subst e14
  injection e3 with e3
  injection e3 with e3
  injection e3 with e3
  subst e3
  have hW7 : Below w3.heap.size w3 w7 := hE7
  have hnn1 := types_ne hn1 ha1 (by decide)
  have hnn2 := types_ne hn1 hp1 (by decide)
  have hnn3 := types_ne ha1 hp1 (by decide)
  have HX7 := hidIt (blk_kept2 HX3.out hW7)
  have HB7 := hidIt (HB3.out.trans (Below.mono hW7 HB3.out.size))
  have hw3 := HB3.out.size
  have hnl := lt_of_block hn1
  have hal := lt_of_block ha1
  have hpl := lt_of_block hp1
  have hxw : w.heap.size ≠ nb := by omega
  have HX8 : Hid (((((w7.setCell ⟨nb, 0, none⟩ (.slice (some ⟨ab, 0, none⟩) N N)).setCell ⟨nb, 1, none⟩ (.slice none 0 0)).setCell ⟨nb, 2, none⟩ (.slice (some ⟨pb, 0, none⟩) N N)).setCell ⟨nb, 3, none⟩ (.slice none 0 0)).heap[w.heap.size]? = some (.cells #[.int .i64 (N : Int), .slice a' ps.length c'] 24 (0, 0))) := by
    show _ = _
    rw [Below.heap_setCell _ ⟨nb, 3, none⟩ _ _ hxw, Below.heap_setCell _ ⟨nb, 2, none⟩ _ _ hxw, Below.heap_setCell _ ⟨nb, 1, none⟩ _ _ hxw, Below.heap_setCell _ ⟨nb, 0, none⟩ _ _ hxw]
    exact HX7.out
  have HWK : Hid (WK w nb ab pb w7.heap.size N (attB ps) ((((w7.setCell ⟨nb, 0, none⟩ (.slice (some ⟨ab, 0, none⟩) N N)).setCell ⟨nb, 1, none⟩ (.slice none 0 0)).setCell ⟨nb, 2, none⟩ (.slice (some ⟨pb, 0, none⟩) N N)).setCell ⟨nb, 3, none⟩ (.slice none 0 0)) (runF (attB ps) N 0) (.slice none 0 0) (.slice none 0 0)) := by
    have hk : ∀ g, g ≠ nb → ((((w7.setCell ⟨nb, 0, none⟩ (.slice (some ⟨ab, 0, none⟩) N N)).setCell ⟨nb, 1, none⟩ (.slice none 0 0)).setCell ⟨nb, 2, none⟩ (.slice (some ⟨pb, 0, none⟩) N N)).setCell ⟨nb, 3, none⟩ (.slice none 0 0)).heap[g]? = w7.heap[g]? := fun g hg => by
      rw [Below.heap_setCell _ ⟨nb, 3, none⟩ _ _ hg, Below.heap_setCell _ ⟨nb, 2, none⟩ _ _ hg, Below.heap_setCell _ ⟨nb, 1, none⟩ _ _ hg, Below.heap_setCell _ ⟨nb, 0, none⟩ _ _ hg]
    refine ⟨⟨by omega, by omega, by omega⟩, ⟨hnn1, hnn2, hnn3⟩, ⟨hnl, hal, hpl⟩, set4 hn1, ?_, ?_, OwnI.nil _ _, OwnU.nil _ _, fun g e => (by cases e), ?_, by repeat (first | exact Nat.le_refl _ | rw [size_setCell9])⟩
    · unfold SetsAt; rw [hk ab (Ne.symm hnn1)]; exact ha1
    · unfold IntsIn; rw [hk pb (Ne.symm hnn2)]; exact hp1
    · exact below_set5 (below_set5 (below_set5 (below_set5 HB7.out (by omega)) (by omega)) (by omega)) (by omega)
  have HB8 : Hid (∀ wx, Below w.heap.size w wx → Tab wx) := fun wx hx => HTAB.out.go hx
  have r0 := (four0 hn1).1
  obtain ⟨n0, n1, n2, n3⟩ := four0 hn1
  have fn0 := free_any hn1 0
  have fn1 := free_any hn1 1
  have fn2 := free_any hn1 2
  have fn3 := free_any hn1 3
  clear hK hE7 X0 X1 HCA hmk hW7 ha0 ha1 hp0 hp1 hn0 hn1 x0 x1 lx r0
  simp only [List.drop_succ_cons, List.drop_zero]
  go_upto_region 3 with (fail)
  generalize ((((w7.setCell ⟨nb, 0, none⟩ (.slice (some ⟨ab, 0, none⟩) N N)).setCell ⟨nb, 1, none⟩ (.slice none 0 0)).setCell ⟨nb, 2, none⟩ (.slice (some ⟨pb, 0, none⟩) N N)).setCell ⟨nb, 3, none⟩ (.slice none 0 0)) = w8 at *
  clear n0 n1 n2 n3 fn0 fn1 fn2 fn3 hnl hal hpl HX7 HB7
  generalize w7.heap.size = B at *
  have ha : ∀ i j, (attB ps i).getLsbD j = true → j < N := fun i j => att_lt HOK.out i j
  have HA := hidIt ha
  obtain ⟨x0, x1⟩ := And.intro (cell_two0 HX8.out) (cell_two1 HX8.out)
  have lx := lt_of_block HX8.out
  clear ha
  go_wp2_with fail
  go_loopw [4, 18] (fun _ vk wr => ∃ (k : Nat) (sv cv : Value), vk = .int .i64 (k : Int) ∧ k ≤ N ∧ Hid (WK w nb ab pb B N (attB ps) wr (runF (attB ps) N k) sv cv) ∧ Hid (wr.heap[w.heap.size]? = some (.cells #[.int .i64 (N : Int), .slice a' ps.length c'] 24 (0, 0)))) (fun _ vk _ => N - (intOf vk).toNat)
  case atStart => exact ⟨0, _, _, (by first | rfl | trivial), Nat.zero_le _, HWK.out, HX8.out⟩
  case round =>
    clear HWK HX8 x0 x1 lx
    obtain ⟨k, sv, cv, rfl, hk, HW, HX⟩ := hrel
    have hkI0 : (0 : Int) ≤ (k : Int) := by omega
    have HWF := hidIt (runF_wf (attB ps) N hN HA.out k hk)
    have HRS := hidIt (runF_succ (attB ps) N k)
    obtain ⟨b0, b1, b2, b3⟩ := four0 HW.out.box
    have lb := lt_of_block HW.out.box
    by_cases hlt : k < N
    · have hkI : (k : Int) < (N : Int) := by omega
      have q0 := HW.out.pl.cell hlt
      have lq := lt_of_block HW.out.pl
      by_cases hz : (runF (attB ps) N k).places k = 0
      · have HCV := hidIt (visit_any w nb ab pb B N (attB ps) hN HA.out HTAB.out N k (runF (attB ps) N k) sv cv wr HW.out HWF.out hlt hz (zeros_N N _))
        rw [if_pos hz] at HRS
        have hb1 : ((runF (attB ps) N k).places k == 0) = true := beq_iff_eq.2 hz
        have HLX : Hid (w.heap.size < wr.heap.size ∧ w.heap.size ≠ nb ∧ w.heap.size ≠ pb ∧ sv.ownBlock ≠ some w.heap.size ∧ cv.ownBlock ≠ some w.heap.size) :=
          ⟨lt_of_block HX.out, types_ne HX.out HW.out.box (by decide), types_ne HX.out HW.out.pl (by decide), fun e => by have := (owns_blk HW.out.stk _ e).1; have := HW.out.hi.1; have := HW.out.lo.1; omega, fun e => by have := (owns_blk HW.out.cmp _ e).1; have := HW.out.hi.1; have := HW.out.lo.1; omega⟩
        clear hz
        go_wp2_with fail
        refine HCV.out.mono ?_
        rintro e w9 ⟨rfl, sv9, cv9, hw9, hf9⟩
        have HW9 := hidIt hw9
        have HX9 := hidIt ((hf9.kept w.heap.size HLX.out.1 HLX.out.2.1 HLX.out.2.2.1 HLX.out.2.2.2.1 HLX.out.2.2.2.2).trans HX.out)
        clear hw9 hf9 HCV
        go_wp2_with fail
        go_roundw
        case rel => exact ⟨k + 1, sv9, cv9, by go_num, by omega, (by show WK _ _ _ _ _ _ _ _ _ _ _; rw [HRS.out]; exact HW9.out), HX9.out⟩
        case measure => simp [intOf]; omega
      · rw [if_neg hz] at HRS
        have hb1 : ((runF (attB ps) N k).places k == 0) = false := beq_eq_false_iff_ne.2 hz
        clear hz
        go_wp2_with fail
        go_roundw
        case rel => exact ⟨k + 1, sv, cv, by go_num, by omega, (by show WK _ _ _ _ _ _ _ _ _ _ _; rw [HRS.out]; exact HW.out), HX.out⟩
        case measure => simp [intOf]; omega
    · obtain rfl : k = N := by omega
      have hkI : ¬ (k : Int) < (k : Int) := by omega
      obtain ⟨sorted, hsp, hspw, hord⟩ := HCO.out
      have HSP := hidIt hsp
      have HSPW := hidIt hspw
      have HORD := hidIt hord
      clear hsp hspw hord HRS
      obtain ⟨ca, cc, rfl, huc⟩ := HW.out.cmp.uc
      have HUC := hidIt huc
      have HBR := hidIt HW.out.bel
      have HSETS : Hid (∀ c ∈ (runF (attB ps) k k).comps, ∀ j ∈ members c, j < k) := fun c hc j hj => HWF.out.sets c hc j (mem_members.1 hj).2
      have HCL : Hid ((runF (attB ps) k k).comps.length ≤ 64) := by have := HWF.out.sum; show _ ≤ _; omega
      have HEMP : Hid ((runF (attB ps) k k).comps = [] → ca = none ∨ ∃ g, ca = some ⟨g, 0, none⟩) := fun he => by
        rcases HW.out.cmp.2 with ⟨h, -⟩ | ⟨g, cap, cur, h, -⟩
        · injection h with h1; exact .inl h1
        · injection h with h1; exact .inr ⟨g, h1⟩
      generalize hcs : (runF (attB ps) k k).comps = cs at *
      obtain ⟨x0, x1⟩ := And.intro (cell_two0 HX.out) (cell_two1 HX.out)
      have lx := lt_of_block HX.out
      have HPR := hidIt (HV.out.below HBR.out)
      have HTR := hidIt (HTAB.out.go HBR.out)
      have HRK := hidIt (rev_ok HOK.out)
      have HRL := hidIt (revL_len k ps HOK.out)
      have HCG : Hid (∀ wx, Ext wr wx → Calls Tryd.prog 21 #[.agg #[.int .i64 (k : Int), .slice a' ps.length c']] wx fun e w'' => ∃ u, e = .returned u ∧ Ext wr w'' ∧ Grows wx w'' ∧ Own.relR (Own.rA (Own.isGr (k : Int) (revL k ps))) wx u w'') := fun wx hC => Own.callA hC ((gReverse_any (k : Int) _ ps wx (HPR.out.below hC) HLN.out).mono fun e w'' ⟨v', he, hp, hb⟩ => by
        unfold rvL at hp
        rw [vN_of HOK.out] at he hp
        rw [vL_of HOK.out, Int.toNat_natCast] at hp
        obtain ⟨ga, gc, rfl, -⟩ := hp.form
        exact ⟨_, he, ⟨ga, gc, rfl, hp⟩, hb⟩)
      have HCS : Hid (∀ wx ga gc, Ext wr wx → PairsAt wx (.slice ga (revL k ps).length gc) (revL k ps) → Calls Tryd.prog 25 #[.agg #[.int .i64 (k : Int), .slice ga (revL k ps).length gc]] wx fun e w'' => ∃ u, e = .returned u ∧ Ext wr w'' ∧ Grows wx w'' ∧ Own.relR (Own.rA (Own.isSets 0 k (attB (revL k ps)))) wx u w'') := fun wx ga gc hC hp => Own.callA hC ((attackedSets_any k _ (revL k ps) wx hp HRK.out (by rw [HRL.out]; have := HLN.out; omega)).mono fun e w'' ⟨b, he, hbb, hs, hb⟩ => ⟨_, he, ⟨b, rfl, Nat.zero_le _, hs⟩, hb⟩)
      have HCO2 : Hid (∀ wx rb, Ext wr wx → SetsAt wx rb k (attB (revL k ps)) → Calls Tryd.prog 27 #[.slice ca cs.length cc, .slice (some ⟨rb, 0, none⟩) k k] wx fun e w'' => ∃ u, e = .returned u ∧ Ext wr w'' ∧ Grows wx w'' ∧ Own.relR (Own.rA (Own.isUs l)) wx u w'') := fun wx rb hC hs => Own.callA hC (by
        by_cases he : cs = []
        · have hl0 : l = [] := by
            have h1 := HSP.out
            rw [he] at h1
            have h2 := List.Perm.eq_nil h1
            have h3 := HORD.out
            rw [h2] at h3
            exact (Option.some.inj h3).symm
          have h4 := ordered_empty k rb ca cc wx (HEMP.out he)
          have e0 : cs.length = 0 := by rw [he]; rfl
          rw [e0]
          exact h4.mono fun e w'' ⟨h5, hb⟩ => ⟨_, h5, ⟨none, 0, by rw [hl0]; rfl, .inl hl0⟩, hb⟩
        · exact (ordered_any k rb (attB (revL k ps)) ca cc cs sorted l wx (HUC.out.go hC) he HCL.out hs (HTR.out.go hC) HSETS.out HSP.out HSPW.out HORD.out).mono fun e w'' ⟨ua, uc, h5, h6, hb⟩ => ⟨_, h5, ⟨ua, uc, rfl, h6⟩, hb⟩)
      clear hcs HRK HRL
      generalize revL k ps = rv at *
      go_wp2_with fail
      have X0 : ∀ wx, Ext wr wx → wx.cell? ⟨w.heap.size, 0, none⟩ = some (.int .i64 (k : Int)) := fun wx hC => ext_cell x0 lx hC
      have X1 : ∀ wx, Ext wr wx → wx.cell? ⟨w.heap.size, 1, none⟩ = some (.slice a' ps.length c') := fun wx hC => ext_cell x1 lx hC
      have B3 : ∀ wx, Ext wr wx → wx.cell? ⟨nb, 3, none⟩ = some (.slice ca cs.length cc) := fun wx hC => ext_cell b3 lb hC
      haveI : Nonempty (In (Ext wr)) := Ext.nonempty wr
      refine Own.wp_region_rel (Ext wr) Grows (Own.relTab [(33, Own.rA (Own.isGr (k : Int) (rv))), (34, Own.rA (Own.isSets 0 k (attB (rv)))), (35, Own.rA (Own.isUs l))]) (by kernel_rfl) (by kernel_rfl) (by kernel_rfl) (Own.stableO_cons (Own.isGr_up _ _) (Own.stableO_cons (Own.isSets_up _ _ _) (Own.stableO_cons (Own.isUs_up _) (Own.stableO_nil _)))) (Ext.start wr) ?_
      repeat (
        refine' Own.walkR_plain (by kernel_rfl) rfl rfl (fun wx hC hL => ?_) ?_
        rotate_left
        · (have hlw := Below.size hC
           have hlw1 := Nat.lt_of_lt_of_le lx hlw
           have hlw2 := Nat.lt_of_lt_of_le lb hlw
           simp only [X0 wx hC, X1 wx hC, B3 wx hC, hlw1, hlw2, go_sem]; first | done | (go_simp; exact ⟨rfl, rfl⟩))
        simp only [Act.put, List.setIfInBounds_toArray, List.set_cons_zero, List.set_cons_succ])
      refine Own.walkR_rel (by kernel_rfl) rfl rfl (of_decide_eq_true (by kernel_rfl)) (fun wx hC hL => ?_) (fun v hv => ?_)
      · go_simp
        exact HCG.out wx hC
      obtain ⟨_, _, ga, gc, rfl, -⟩ := hv
      simp only [Act.put, List.setIfInBounds_toArray, List.set_cons_zero, List.set_cons_succ]
      refine Own.walkR_rel (by kernel_rfl) rfl rfl (of_decide_eq_true (by kernel_rfl)) (fun wx hC hL => ?_) (fun v hv => ?_)
      · have h33 : Own.isGr (k : Int) (rv) (.agg #[.int .i64 (k : Int), .slice ga rv.length gc]) wx := hL.get 33 (by simp [Own.more]) (by kernel_rfl) rfl rfl
        have HPW : Hid (PairsAt wx (.slice ga rv.length gc) rv) := by
          obtain ⟨ga', gc', he, hp⟩ := h33
          injection he with he
          have he2 : (Value.slice ga rv.length gc) = Value.slice ga' rv.length gc' := (List.cons.inj (List.cons.inj (congrArg Array.toList he)).2).1
          show PairsAt _ _ _
          rw [he2]
          exact hp
        clear h33
        go_simp
        exact HCS.out wx ga gc hC HPW.out
      obtain ⟨_, _, rb, rfl, -, -⟩ := hv
      simp only [Act.put, List.setIfInBounds_toArray, List.set_cons_zero, List.set_cons_succ]
      refine Own.walkR_rel (by kernel_rfl) rfl rfl (of_decide_eq_true (by kernel_rfl)) (fun wx hC hL => ?_) (fun v hv => ?_)
      · have h34 : Own.isSets 0 k (attB (rv)) (.slice (some ⟨rb, 0, none⟩) k k) wx := hL.get 34 (by simp [Own.more]) (by kernel_rfl) rfl rfl
        have HSW : Hid (SetsAt wx rb k (attB rv)) := by
          obtain ⟨rb', he, -, hs⟩ := h34
          injection he with he
          injection he with he
          injection he with he
          subst he
          exact hs
        clear h34
        go_simp
        exact HCO2.out wx rb hC HSW.out
      obtain ⟨_, _, ua, uc, rfl, -⟩ := hv
      simp only [Act.put, List.setIfInBounds_toArray, List.set_cons_zero, List.set_cons_succ]
      repeat (
        refine' Own.walkR_plain (by kernel_rfl) rfl rfl (fun wx hC hL => ?_) ?_
        rotate_left
        · (have hlw := Below.size hC
           have hlw1 := Nat.lt_of_lt_of_le lx hlw
           have hlw2 := Nat.lt_of_lt_of_le lb hlw
           simp only [X0 wx hC, X1 wx hC, B3 wx hC, hlw1, hlw2, go_sem]; first | done | (go_simp; exact ⟨rfl, rfl⟩))
        simp only [Act.put, List.setIfInBounds_toArray, List.set_cons_zero, List.set_cons_succ])
      refine fun w10 hC10 hK => ?_
      have HUA : Hid (UC w10 ua l) := by
        obtain ⟨ua', uc', he, hu⟩ : Own.isUs l (.slice ua l.length uc) w10 := hK.get 35 (by simp [Own.more]) rfl rfl
        injection he with he
        subst he
        exact hu
      have HB10 := hidIt (HBR.out.trans (Below.mono hC10 HBR.out.size))
      have HT10 := hidIt (HTAB.out.go HB10.out)
      have HLL : Hid (l.length ≤ 1000) := by
        show _ ≤ _
        have hgen : ∀ (f : Nat) (r : List (BitVec 64)) (li : BitVec 64) (o : List (BitVec 64)), orderF (attB rv) f r li = some o → o.length ≤ f := by
          intro f
          induction f with
          | zero =>
            intro r li o h
            unfold orderF at h
            split at h
            · rw [← Option.some.inj h]; exact Nat.le_refl _
            · cases h
          | succ f ih =>
            intro r li o h
            by_cases hr : r = []
            · rw [orderF, if_pos hr] at h
              rw [← Option.some.inj h]
              exact Nat.zero_le _
            · obtain ⟨q, hq, -, o', ho', rfl⟩ := orderF_step hr h
              have := ih _ _ _ ho'
              simp only [List.length_cons]
              omega
        have h1 := hgen _ _ _ _ HORD.out
        have h2 := HSP.out.length_eq
        have h3 := HCL.out
        omega
      clear hK hC10 X0 X1 B3 HCG HCS HCO2 x0 x1 lx b0 b1 b2 b3 lb
      obtain ⟨M, hM⟩ : ∃ M, M = l.length := ⟨_, rfl⟩
      have HM := hidIt hM
      rw [← hM] at HLL ⊢
      clear hM
      have hMl := HLL.out
      go_wp2_with fail
      go_loopw [5, 7, 37] (fun v5 _ vj wr => ∃ (j : Nat) (la : Option Addr) (lc : Nat), v5 = .slice la j lc ∧ vj = .int .i64 (j : Int) ∧ j ≤ M ∧ Hid (OwnLL wr w10.heap.size (.slice la j lc) (listsOf (l.take j))) ∧ Hid (Below w10.heap.size w10 wr)) (fun _ _ vj _ => M - (intOf vj).toNat)
      case atStart => exact ⟨0, none, 0, (by first | rfl | trivial), (by first | rfl | trivial), Nat.zero_le _, OwnLL.nil _ _, Below.refl _ _⟩
      case round =>
        obtain ⟨j, la, lc, rfl, rfl, hj, HO, HBr⟩ := hrel
        have hjI0 : (0 : Int) ≤ (j : Int) := by omega
        by_cases hlt : j < M
        · have hjI : (j : Int) < (M : Int) := by omega
          have hjl : j < l.length := by rw [← HM.out]; exact hlt
          obtain ⟨ub, uo, rfl, lu, hcs⟩ := (HUA.out.go HBr.out).at_ hjl
          have c0 := hcs j hjl
          have HST : Hid (listsOf (l.take (j + 1)) = listsOf (l.take j) ++ [ints (members l[j])]) := by
            show _ = _
            unfold listsOf
            rw [List.take_succ_eq_append_getElem hjl, List.map_append]
            rfl
          have HTL : Hid ((listsOf (l.take j)).length = j) := by show _ = _; unfold listsOf; rw [List.length_map, List.length_take]; omega
          generalize l[j] = cs2 at *
          clear hcs
          have HTr := hidIt (HT10.out.go HBr.out)
          go_wp2_with fail
          refine (elements_any cs2 _ HTr.out).mono ?_
          rintro e w11 ⟨ev, rfl, hoe, hb⟩
          obtain ⟨vals, hv1, hv2, hv3⟩ := HO.out.go hb
          obtain ⟨ea, ec, rfl, -⟩ := shape_own hoe
          rw [ints_len]
          rw [ints_len] at hoe
          have hg12 := bgrow w11 (.cells #[.slice ea (members cs2).length ec] 25)
          have HO12 := hidIt ((HO.out.go hb).go hg12)
          have HV1 : Hid (World.ownsRow (w11.alloc (.cells #[.slice ea (members cs2).length ec] 25)) w10.heap.size 25 1 (.slice la j lc) j vals) := by
            have := owns_kept hv1 fun g e => hg12.block g (owns_blk hv1 g e).2
            rw [HTL.out] at this
            exact this
          have HV2 := hidIt hv2
          have HV3 : Hid (∀ i (h : i < (listsOf (l.take j)).length), ∃ u, vals[i]? = some u ∧ OwnI (w11.alloc (.cells #[.slice ea (members cs2).length ec] 25)) w10.heap.size u (listsOf (l.take j))[i]) := fun i hi => by
            obtain ⟨u, hu, ho⟩ := hv3 i hi
            exact ⟨u, hu, ho.go hg12⟩
          have HOE : Hid (OwnI (w11.alloc (.cells #[.slice ea (members cs2).length ec] 25)) w10.heap.size (.slice ea (members cs2).length ec) (ints (members cs2))) := owns_mono (OwnI.go hoe hg12) HBr.out.size
          have HB12 := hidIt ((HBr.out.trans (Below.mono hb HBr.out.size)).trans (Below.mono hg12 (Nat.le_trans HBr.out.size hb.size)))
          have hsz12 : w10.heap.size ≤ (w11.alloc (.cells #[.slice ea (members cs2).length ec] 25)).heap.size := HB12.out.size
          clear hv1 hv2 hv3 hoe hb hg12 HO HBr c0 lu HTr
          go_wp2_with (at_builtin; refine Hid.out ?_)
          refine hidIt ?_
          refine wpList_append_kb rfl _ _ elemLL rfl w10.heap.size (.slice la j lc) j _ rfl HV1.out _ 1 rfl #[.slice ea (members cs2).length ec] 25 (heap_alloc_new _ _) rfl (one_of (by rfl)) (by omega) hsz12 ?_
          intro g8 c8 w13 hown8 hg8 hbl8
          have HON : Hid (OwnLL w13 w10.heap.size (.slice (some ⟨g8, 0, none⟩) (j + 1) c8) (listsOf (l.take (j + 1)))) := by
            show OwnLL _ _ _ _
            rw [HST.out]
            exact OwnLL.app HO12.out HOE.out vals (by rw [HTL.out]; exact HV1.out) HV2.out HV3.out (by rw [HTL.out]; exact hown8) hg8
          have HBN := hidIt (below_app5 HB12.out hg8 (fun g e => (owns_blk HV1.out g e).1) hsz12)
          clear hown8 hg8 hbl8 HV1 HV2 HV3 HOE HO12 HB12 hsz12
          go_wp2_with fail
          go_roundw
          case rel => exact ⟨j + 1, some ⟨g8, 0, none⟩, c8, (by first | rfl | trivial), by go_num, by omega, HON.out, HBN.out⟩
          case measure => simp [intOf]; omega
        · have hjI : ¬ (j : Int) < (M : Int) := by omega
          have HE : Hid (l.take j = l) := List.take_of_length_le (by rw [← HM.out]; omega)
          rw [HE.out] at HO
          have HLO := hidIt HO.out.ll
          have HBF := hidIt (HB10.out.trans (Below.mono HBr.out HB10.out.size))
          go_wp2_with fail
          go_ret
          exact ⟨_, rfl, HLO.out, HBF.out⟩
end Go.Proofs.YtcelijjohcfhkaaDoor
