/- keep.SpoiltGraph: what it hands back. -/
import Derived.Test.YtghnojmaciljoaaG1P
import Derived.Test.YtghnojmaciljoaaG0U
namespace Go.Proofs.Ytghnojmaciljoaa
set_option linter.unusedVariables false
set_option linter.unusedSimpArgs false
open Go Go.RowKit

namespace Own
/-- A new row of one pair. -/
def isPP (b : Nat) : Value → World → Prop := fun v w => ∃ (nb : Nat) (x y : Int), v = .slice (some ⟨nb, 0, none⟩) 1 1 ∧ nb ≠ b ∧ w.heap[nb]? = some (.cells #[.int .i64 x, .int .i64 y] 43 (0, 0))
theorem isPP_up (b : Nat) : UpB b (isPP b) := fun _ _ _ hg ⟨nb, x, y, h1, h2, h3⟩ => ⟨nb, x, y, h1, h2, keptB hg h2 h3⟩
theorem ppB {W w : World} {B b : Nat} {zs : List Int} (hC : CB W B b zs w) (x y : Int) : CB W B b zs (w.alloc (.cells #[.int .i64 x, .int .i64 y] 43)) ∧ GB b w (w.alloc (.cells #[.int .i64 x, .int .i64 y] 43)) ∧ relR (rA (isPP b)) w (.slice (some ⟨w.heap.size, 0, none⟩) 1 1) (w.alloc (.cells #[.int .i64 x, .int .i64 y] 43)) := by
  obtain ⟨q, hq⟩ := hC.2
  exact ⟨hC.grown (bgrow w _), only_of_below (bgrow w _) _, ⟨_, x, y, rfl, by have := hq.lt; omega, heap_alloc_new _ _⟩, fun h => by cases h⟩
end Own

set_option maxRecDepth 100000 in
set_option maxHeartbeats 8000000 in
theorem kSpoiltGraph_any (n : Int) (v : Value) (ps : List (Int × Int)) (B b : Nat) (zs : List Int) (k0 : Nat) (w : World) (h : PairsAt w v ps) (hl : ps.length ≤ 1000) (hs : SrcAt w B b zs k0) :
    Calls Try.prog 17 #[.pointer (some ⟨b, 0, none⟩), .agg #[.int .i64 n, v]] w (SpoiltOut w B b zs ps.length) := by
  have hb := hs.lt
  obtain ⟨⟨hX, hZ⟩, hB⟩ := two_boxes w (.cells #[.int .i64 n, v] 27) (.cells #[.int .i64 0, .slice none 0 0] 27)
  have HS := hidIt hs
  have HP1 := hidIt (h.below hB)
  obtain ⟨a, c, rfl, -⟩ := h.form
  have HX := hidIt hX
  have HZ := hidIt hZ
  have HB := hidIt hB
  have hsz : ((w.alloc (.cells #[.int .i64 n, .slice a ps.length c] 27)).alloc (.cells #[.int .i64 0, .slice none 0 0] 27)).heap.size = w.heap.size + 2 := by rw [World.size_alloc, World.size_alloc]
  clear hX hZ hB h hs
  go_enter Try.func17, Try.ntmps17
  go_upto_region 1 with (fail)
  generalize ((w.alloc (.cells #[.int .i64 n, .slice a ps.length c] 27)).alloc (.cells #[.int .i64 0, .slice none 0 0] 27)) = w0 at *
  have HW2 := hidIt hsz
  clear hsz
  obtain ⟨k0', k1'⟩ := And.intro (cell_two0 HX.out) (cell_two1 HX.out)
  have lk := lt_of_block HX.out
  have KA : ∀ wx, Ext w0 wx → wx.cell? ⟨w.heap.size, 0, none⟩ = some (.int .i64 n) := fun wx hC => (Below.cell (p := ⟨w.heap.size, 0, none⟩) hC lk).trans k0'
  have KC : ∀ wx, Ext w0 wx → wx.cell? ⟨w.heap.size, 1, none⟩ = some (.slice a ps.length c) := fun wx hC => (Below.cell (p := ⟨w.heap.size, 1, none⟩) hC lk).trans k1'
  clear k0' k1'
  go_wp2_with fail
  haveI := Ext.nonempty w0
  refine Own.wp_region_tail 8 (Ext w0) Grows (Own.relTab [(9, Own.rA (Own.isEmp w0.heap.size 43)), (12, Own.rA (Own.isRow5 w0.heap.size 43 2 ps.length (ps.flatMap encP))), (5, Own.rA (Own.isBox5 w0.heap.size #[.int .i64 0, .slice none 0 0] 27))]) (by kernel_rfl) (by kernel_rfl) (by kernel_rfl) (by kernel_rfl) (by kernel_rfl) (by kernel_rfl) (Own.stableO_cons (Own.isEmp_up _ _) (Own.stableO_cons (Own.isRow5_up _ _ _ _ _) (Own.stableO_cons (Own.isBox5_up _ _ _) (Own.stableO_nil _)))) (Ext.start w0) ?_
  simp only [Own.idleTail]
  repeat (
    refine' Own.walkR_plain (by kernel_rfl) rfl rfl (fun wx hC hL => ?_) ?_
    rotate_left
    · (have hlw := Nat.lt_of_lt_of_le lk (Below.size hC)
       simp only [KA wx hC, KC wx hC, hlw, go_sem]; first | done | (go_simp; exact ⟨rfl, rfl⟩))
    simp only [Act.put, List.setIfInBounds_toArray, List.set_cons_zero, List.set_cons_succ])
  refine Own.walkR_rel (by kernel_rfl) rfl rfl (of_decide_eq_true (by kernel_rfl)) (fun wx hC hL => ?_) (fun v hv => ?_)
  · go_simp
    exact Own.empA hC _
  obtain ⟨_, _, g10, rfl, hg10, -⟩ := hv
  simp only [Act.put, List.setIfInBounds_toArray, List.set_cons_zero, List.set_cons_succ]
  repeat (
    refine' Own.walkR_plain (by kernel_rfl) rfl rfl (fun wx hC hL => ?_) ?_
    rotate_left
    · (have hlw := Nat.lt_of_lt_of_le lk (Below.size hC)
       simp only [KA wx hC, KC wx hC, hlw, go_sem]; first | done | (go_simp; exact ⟨rfl, rfl⟩))
    simp only [Act.put, List.setIfInBounds_toArray, List.set_cons_zero, List.set_cons_succ])
  refine Own.walkR_rel (by kernel_rfl) rfl rfl (of_decide_eq_true (by kernel_rfl)) (fun wx hC hL => ?_) (fun v hv => ?_)
  · obtain ⟨g', e', hge, hg'⟩ : Own.isEmp w0.heap.size 43 (.slice (some ⟨g10, 0, none⟩) 0 0) wx := hL.get 9 (by simp [Own.more]) (by kernel_rfl) rfl rfl
    injection e' with e'
    injection e' with e'
    injection e' with e'
    subst e'
    obtain ⟨v', w', hrun, ho, hb'⟩ := run_append0p 25 w0.heap.size g10 hg' hge (HP1.out.below hC) (by omega)
    exact Own.rel_run rfl rfl rfl hrun ⟨hC.grown hb', hb', ho, fun h => by cases h⟩
  obtain ⟨wq, _, hv13⟩ := hv
  obtain ⟨ap, cp, rfl, -, -⟩ := shape_own hv13
  clear hv13
  simp only [Act.put, List.setIfInBounds_toArray, List.set_cons_zero, List.set_cons_succ]
  repeat (
    refine' Own.walkR_plain (by kernel_rfl) rfl rfl (fun wx hC hL => ?_) ?_
    rotate_left
    · (go_simp; exact ⟨rfl, rfl⟩)
    simp only [Act.put, List.setIfInBounds_toArray, List.set_cons_zero, List.set_cons_succ])
  refine Own.walkR_rel (by kernel_rfl) rfl rfl (of_decide_eq_true (by kernel_rfl)) (fun wx hC hL => ?_) (fun v hv => ?_)
  · go_simp
    exact Own.box5A hC _ _
  obtain ⟨_, _, R, rfl, hRg, -⟩ := hv
  simp only [Act.put, List.setIfInBounds_toArray, List.set_cons_zero, List.set_cons_succ]
  refine Own.walkR_idle (fun wx hC => Below.refl _ _) ?_
  refine fun w2 hC2 hK => ?_
  have h13 : Own.isRow5 w0.heap.size 43 2 ps.length (ps.flatMap encP) (.slice ap ps.length cp) w2 := hK.get 12 (by simp [Own.more]) rfl rfl
  obtain ⟨R', eR, hR1, hRb⟩ : Own.isBox5 w0.heap.size #[.int .i64 0, .slice none 0 0] 27 (.pointer (some ⟨R, 0, none⟩)) w2 := hK.get 5 (by simp [Own.more]) rfl rfl
  injection eR with eR
  injection eR with eR
  injection eR with eR
  subst eR
  have HC2 : Hid (Below w0.heap.size w0 w2) := hC2
  clear hK hC2 KA KC lk
  simp only [List.drop_succ_cons, List.drop_zero]
  have f0 := free_any hRb 0
  have f1 := free_any hRb 1
  obtain ⟨z0, z1⟩ := And.intro (cell_two0 hRb) (cell_two1 hRb)
  have lR := lt_of_block hRb
  have HGT : Hid (GT w B b R zs n ((w2.setCell ⟨R, 0, none⟩ (.int .i64 n)).setCell ⟨R, 1, none⟩ (.slice ap ps.length cp)) (.slice ap ps.length cp) ps k0) := by
    have hw2 := HW2.out
    have hB := HS.out.base
    have hset : ∀ j, j ≠ R → ((w2.setCell ⟨R, 0, none⟩ (.int .i64 n)).setCell ⟨R, 1, none⟩ (.slice ap ps.length cp)).heap[j]? = w2.heap[j]? := fun j hj => by
      rw [Below.heap_setCell _ ⟨R, 1, none⟩ _ j (by show j ≠ R; exact hj), Below.heap_setCell _ ⟨R, 0, none⟩ _ j (by show j ≠ R; exact hj)]
    have h13' : w2.ownsRow (w.heap.size + 2) 43 2 (.slice ap ps.length cp) ps.length (ps.flatMap encP) := by rw [← hw2]; exact h13
    refine ⟨hb, by omega, (hset _ (by omega)).trans ((HC2.out.block _ (by omega)).trans HZ.out), ?_, owns_kept h13' fun g e => hset g ?_, ?_, ?_⟩
    · have := set_cells (i := 1) (u := .slice ap ps.length cp) (set_cells (i := 0) (u := .int .i64 n) hRb)
      simpa using this
    · obtain ⟨c, hc⟩ := owns_tag h13' e
      exact tag_ne hc hRb (by decide)
    · exact (((HS.out.grow (only_of_below HB.out none)).grow (only_of_below (Below.mono HC2.out (Nat.le_refl _)) none)).setCell ⟨R, 0, none⟩ _ (by show B ≤ R; omega) (by show R ≠ b; omega)).setCell ⟨R, 1, none⟩ _ (by show B ≤ R; omega) (by show R ≠ b; omega)
    · exact only_setCell (only_setCell (only_of_below (HB.out.trans (HC2.out.mono (by omega))) (some b)) (p := ⟨R, 0, none⟩) (.inr (by show w.heap.size ≤ R; omega)) _) (p := ⟨R, 1, none⟩) (.inr (by show w.heap.size ≤ R; omega)) _
  clear h13 HS HP1 HX HZ HB HC2 HW2
  go_upto_region 2 with (fail)
  clear f0 f1 z0 z1 lR hRb
  generalize ((w2.setCell ⟨R, 0, none⟩ (.int .i64 n)).setCell ⟨R, 1, none⟩ (.slice ap ps.length cp)) = w3 at *
  obtain ⟨b0, b1⟩ := And.intro (cell_two0 HGT.out.box) (cell_two1 HGT.out.box)
  have lb := lt_of_block HGT.out.box
  by_cases h0 : ps.length = 0
  · skip
    obtain rfl : ps = [] := List.eq_nil_of_length_eq_zero h0
    clear h0
    have h0b : (((([] : List (Int × Int)).length : Nat) : Int) == 0) = true := rfl
    go_upto_region 3 with (fail)
    have KB : ∀ wx, Own.CB w3 B b zs wx → wx.cell? ⟨R, 1, none⟩ = some (.slice ap ([] : List (Int × Int)).length cp) := fun wx hC => hC.cell b1 (by have := HGT.out.lo; omega)
    haveI : Nonempty (In (Own.CB w3 B b zs)) := ⟨⟨w3, Own.CB.one _ _ _ _ _ HGT.out.src⟩⟩
    go_wp2_with fail
    refine Own.wp_region_tail 10 (Own.CB w3 B b zs) (Own.GB b) (Own.relTab [(21, Own.rA (Own.isNat 4)), (24, Own.rA (Own.isNat 4)), (27, Own.rA (Own.isPP b))]) (by kernel_rfl) (by kernel_rfl) (by kernel_rfl) (by kernel_rfl) (by kernel_rfl) (by kernel_rfl) (Own.stableB_cons (Own.isNat_up _ _) (Own.stableB_cons (Own.isNat_up _ _) (Own.stableB_cons (Own.isPP_up _) (Own.stableB_nil _ _)))) (Own.CB.start HGT.out.src) ?_
    simp only [Own.idleTail]
    repeat (
      refine' Own.walkR_plain (by kernel_rfl) rfl rfl (fun wx hC hL => ?_) ?_
      rotate_left
      · (have hlw := hC.1.size
         have hlw1 := Nat.lt_of_lt_of_le lb hlw
         simp only [KB wx hC, hlw1, go_sem]; first | done | (go_simp; exact ⟨rfl, rfl⟩))
      simp only [Act.put, List.setIfInBounds_toArray, List.set_cons_zero, List.set_cons_succ])
    refine Own.walkR_rel (by kernel_rfl) rfl rfl (of_decide_eq_true (by kernel_rfl)) (fun wx hC hL => ?_) (fun v hv => ?_)
    · go_simp
      exact Own.callN 4 (by omega) (by omega) hC
    obtain ⟨_, _, m, rfl, hm⟩ := hv
    simp only [Act.put, List.setIfInBounds_toArray, List.set_cons_zero, List.set_cons_succ]
    have hwm : IntKind.i64.wrap ((m : Int) - 1) = (m : Int) - 1 := IntWalk.i64_in _ (by omega)
    repeat (
      refine' Own.walkR_plain (by kernel_rfl) rfl rfl (fun wx hC hL => ?_) ?_
      rotate_left
      · (have hlw := hC.1.size
         have hlw1 := Nat.lt_of_lt_of_le lb hlw
         simp only [KB wx hC, hwm, hlw1, go_sem]; first | done | (go_simp; exact ⟨rfl, rfl⟩))
      simp only [Act.put, List.setIfInBounds_toArray, List.set_cons_zero, List.set_cons_succ])
    refine Own.walkR_rel (by kernel_rfl) rfl rfl (of_decide_eq_true (by kernel_rfl)) (fun wx hC hL => ?_) (fun v hv => ?_)
    · go_simp
      exact Own.callN 4 (by omega) (by omega) hC
    obtain ⟨_, _, m', rfl, hm'⟩ := hv
    simp only [Act.put, List.setIfInBounds_toArray, List.set_cons_zero, List.set_cons_succ]
    have hwm' : IntKind.i64.wrap ((m' : Int) - 1) = (m' : Int) - 1 := IntWalk.i64_in _ (by omega)
    repeat (
      refine' Own.walkR_plain (by kernel_rfl) rfl rfl (fun wx hC hL => ?_) ?_
      rotate_left
      · (have hlw := hC.1.size
         have hlw1 := Nat.lt_of_lt_of_le lb hlw
         simp only [KB wx hC, hwm', hlw1, go_sem]; first | done | (go_simp; exact ⟨rfl, rfl⟩))
      simp only [Act.put, List.setIfInBounds_toArray, List.set_cons_zero, List.set_cons_succ])
    refine Own.walkR_rel (by kernel_rfl) rfl rfl (of_decide_eq_true (by kernel_rfl)) (fun wx hC hL => ?_) (fun v hv => ?_)
    · go_simp
      exact Own.ppB hC _ _
    obtain ⟨_, _, nb, _, _, rfl, -, -⟩ := hv
    simp only [Act.put, List.setIfInBounds_toArray, List.set_cons_zero, List.set_cons_succ]
    refine Own.walkR_idle (fun wx _ => only_refl _ _) ?_
    refine Own.walkR_idle (fun wx _ => only_refl _ _) ?_
    refine Own.walkR_idle (fun wx _ => only_refl _ _) ?_
    refine fun w10 hE10 hK => ?_
    obtain ⟨bb, px, py, e60, -, hnb3⟩ : Own.isPP b (.slice (some ⟨nb, 0, none⟩) 1 1) w10 := hK.get 27 (by simp [Own.more]) rfl rfl
    injection e60 with e60
    injection e60 with e60
    injection e60 with e60
    subst e60
    obtain ⟨hg9, q9, hs9⟩ := hE10
    have HG7 := hidIt (HGT.out.call hs9 hg9)
    clear hK KB b0 b1 lb HGT hg9 hs9
    have hsz7 : w.heap.size + 2 ≤ w10.heap.size := by have := HG7.out.lo; have := lt_of_block HG7.out.box; omega
    obtain ⟨L, hL⟩ : ∃ L, L = ([] : List (Int × Int)).length := ⟨_, rfl⟩
    have HLL := hidIt hL
    have hLb : L ≤ 1000 := by rw [hL]; decide
    have HO7 : Hid (World.ownsRow w10 (w.heap.size + 2) 43 2 (.slice ap L cp) L (([] : List (Int × Int)).flatMap encP)) := by
      have h := HG7.out.own
      unfold OwnP at h
      rw [← HLL.out] at h
      exact h
    have hL2 : L = 0 := hL
    subst hL2
    clear hL
    simp only [List.drop_succ_cons, List.drop_zero]
    refine wpList_append_kb (by rfl) (.tmp 19) (.tmp 27) elemP (by rfl) (w.heap.size + 2) (.slice ap 0 cp) 0 _ (by rfl) HO7.out nb 1 (by rfl) #[.int .i64 px, .int .i64 py] _ hnb3 rfl (one_of (by rfl)) (by omega) hsz7 ?_
    intro g8 c8 w8 hown8 hg8 hbl8
    have HL8 : Hid ((([] : List (Int × Int)) ++ [(px, py)]).length = 0 + 1) := by show _ = _; rw [List.length_append, HLL.out]; rfl
    have hQ8 := (hg8.block R (lt_of_block HG7.out.box) (fun e => (HG7.out.ne R (by rw [← HLL.out]; exact e.symm)) rfl)).trans HG7.out.box
    have HF : Hid (GT w B b R zs n (w8.setCell ⟨R, 1, none⟩ (.slice (some ⟨g8, 0, none⟩) (0 + 1) c8)) (.slice (some ⟨g8, 0, none⟩) (([] : List (Int × Int)) ++ [(px, py)]).length c8) (([] : List (Int × Int)) ++ [(px, py)]) q9) := by
      show GT _ _ _ _ _ _ _ _ _ _
      rw [HL8.out]
      exact GT.app (x := (px, py)) HG7.out (by rw [← HLL.out]; exact hown8) (by rw [← HLL.out]; exact hg8) (fun g e => by
        obtain ⟨cc, hcc⟩ := owns_tag hown8 e
        exact tag_ne hcc hQ8 (by decide))
    have k0 := cell_two0 hQ8
    have k1 := cell_two1 hQ8
    have lk := lt_of_block hQ8
    have f8 := free_any hQ8 1
    clear hown8 hg8 hbl8 HO7 HG7 hsz7 hQ8 hnb3
    go_upto_region 4 with (fail)
    clear k0 k1 lk f8
    generalize (w8.setCell ⟨R, 1, none⟩ (.slice (some ⟨g8, 0, none⟩) (0 + 1) c8)) = wF at *
    obtain ⟨b0, b1⟩ := And.intro (cell_two0 HF.out.box) (cell_two1 HF.out.box)
    have lb := lt_of_block HF.out.box
    have r0 := cell_two0 HF.out.res
    have r1 := cell_two1 HF.out.res
    have lr := lt_of_block HF.out.res
    have g0 := free_any HF.out.res 0
    have g1 := free_any HF.out.res 1
    go_wp2_with fail
    refine bodyPost_ret (v := .agg #[.int .i64 n, (.slice (some ⟨g8, 0, none⟩) (([] : List (Int × Int)) ++ [(px, py)]).length c8)]) (by simp [results, Try.results17, go_sem, r0, r1, lr]) rfl ?_
    exact HF.out.fin (by rw [HL8.out, HLL.out]; exact Nat.le_refl _) _ _
  · have h0b : ((ps.length : Int) == 0) = false := beq_eq_false_iff_ne.2 (by omega)
    have h0p : (1 : Int) ≤ (ps.length : Int) := by omega
    have h0' : ¬ ((ps.length : Int) = 0) := by omega
    go_wp2_with fail
    refine (sn_nat (ps.length : Int) (by omega) (by omega) B b zs k0 _ HGT.out.src).mono ?_
    rintro e w4 ⟨i1, k4, rfl, hi1', hs4, hg4⟩
    have hi1 : i1 < ps.length := by omega
    have HG4 := hidIt (HGT.out.call hs4 hg4)
    have hiI : (i1 : Int) < (ps.length : Int) := by omega
    have hi0 : (0 : Int) ≤ (i1 : Int) := by omega
    clear hs4 hg4 HGT b0 b1 lb hi1'
    go_wp2_with fail
    refine (sn_nat 5 (by decide) (by decide) B b zs k4 _ HG4.out.src).mono ?_
    rintro e w5 ⟨z, k5, rfl, hz, hs5, hg5⟩
    have HG := hidIt (HG4.out.call hs5 hg5)
    clear hs5 hg5 HG4
    by_cases z0 : z = 0
    · subst z0
      go_upto_region 9 with (fail)
      obtain ⟨b0, b1⟩ := And.intro (cell_two0 HG.out.box) (cell_two1 HG.out.box)
      have lb := lt_of_block HG.out.box
      have hRb : R ≠ b := by have := HG.out.lo; omega
      obtain ⟨gp, rfl, hgp, hgb, hgR, fr0, fr1, p0, p1⟩ := HG.out.cell2 hi1
      have KB : ∀ wx, Own.CB w5 B b zs wx → wx.cell? ⟨R, 1, none⟩ = some (.slice (some ⟨gp, 0, none⟩) ps.length cp) := fun wx hC => hC.cell b1 hRb
      clear p0 p1 fr0 fr1
      haveI : Nonempty (In (Own.CB w5 B b zs)) := ⟨⟨w5, Own.CB.one _ _ _ _ _ HG.out.src⟩⟩
      go_wp2_with fail
      refine Own.wp_region_tail 8 (Own.CB w5 B b zs) (Own.GB b) (Own.relTab [(48, Own.rA (Own.isNat 10))]) (by kernel_rfl) (by kernel_rfl) (by kernel_rfl) (by kernel_rfl) (by kernel_rfl) (by kernel_rfl) (Own.stableB_cons (Own.isNat_up _ _) (Own.stableB_nil _ _)) (Own.CB.start HG.out.src) ?_
      simp only [Own.idleTail]
      repeat (
        refine' Own.walkR_plain (by kernel_rfl) rfl rfl (fun wx hC hL => ?_) ?_
        rotate_left
        · (have hlw := hC.1.size
           have hlw1 := Nat.lt_of_lt_of_le lb hlw
           simp only [KB wx hC, hiI, hi0, hlw1, go_sem]; first | done | (go_simp; exact ⟨rfl, rfl⟩))
        simp only [Act.put, List.setIfInBounds_toArray, List.set_cons_zero, List.set_cons_succ])
      refine Own.walkR_rel (by kernel_rfl) rfl rfl (of_decide_eq_true (by kernel_rfl)) (fun wx hC hL => ?_) (fun v hv => ?_)
      · go_simp
        exact Own.callN 10 (by omega) (by omega) hC
      obtain ⟨_, _, m, rfl, hm⟩ := hv
      simp only [Act.put, List.setIfInBounds_toArray, List.set_cons_zero, List.set_cons_succ]
      have hwm : IntKind.i64.wrap ((m : Int) - 1) = (m : Int) - 1 := IntWalk.i64_in _ (by omega)
      repeat (
        refine' Own.walkR_plain (by kernel_rfl) rfl rfl (fun wx hC hL => ?_) ?_
        rotate_left
        · (have hlw := hC.1.size
           have hlw1 := Nat.lt_of_lt_of_le lb hlw
           simp only [KB wx hC, hiI, hi0, hlw1, hwm, go_sem]; first | done | (go_simp; exact ⟨rfl, rfl⟩))
        simp only [Act.put, List.setIfInBounds_toArray, List.set_cons_zero, List.set_cons_succ])
      refine Own.walkR_idle (fun wx hC => only_refl _ _) ?_
      refine fun w9 hC9 hK => ?_
      obtain ⟨hg9, q9, hs9⟩ := hC9
      have HG9 := hidIt (HG.out.call hs9 hg9)
      clear hg9 hs9 hK b0 b1 lb KB HG hgp
      obtain ⟨gp', e', hgp, -, -, fr0, fr1, p0, p1⟩ := HG9.out.cell2 hi1
      injection e' with e'
      injection e' with e'
      subst e'
      have HF := hidIt (HG9.out.put hi1 (j := 0) (by decide) (u := .int .i64 ((m : Int) - 1)) (y := ((m : Int) - 1, ps[i1].2)) rfl)
      simp only [Nat.add_zero] at HF
      simp only [List.drop_succ_cons, List.drop_zero]
      go_upto_region 16 with (fail)
      clear p0 p1 fr0 fr1 hgp
      generalize (w9.setCell ⟨gp, i1 * 2, none⟩ (.int .i64 ((m : Int) - 1))) = wF at *
      obtain ⟨b0, b1⟩ := And.intro (cell_two0 HF.out.box) (cell_two1 HF.out.box)
      have lb := lt_of_block HF.out.box
      have r0 := cell_two0 HF.out.res
      have r1 := cell_two1 HF.out.res
      have lr := lt_of_block HF.out.res
      have g0 := free_any HF.out.res 0
      have g1 := free_any HF.out.res 1
      go_wp2_with fail
      refine bodyPost_ret (v := .agg #[.int .i64 n, (.slice (some ⟨gp, 0, none⟩) (ps.set i1 ((m : Int) - 1, ps[i1].2)).length cp)]) (by simp [results, Try.results17, go_sem, r0, r1, lr]) rfl ?_
      exact HF.out.fin (by rw [List.length_set]; omega) _ _
    by_cases z1 : z = 1
    · subst z1
      go_upto_region 11 with (fail)
      obtain ⟨b0, b1⟩ := And.intro (cell_two0 HG.out.box) (cell_two1 HG.out.box)
      have lb := lt_of_block HG.out.box
      have hRb : R ≠ b := by have := HG.out.lo; omega
      obtain ⟨gp, rfl, hgp, hgb, hgR, fr0, fr1, p0, p1⟩ := HG.out.cell2 hi1
      have KB : ∀ wx, Own.CB w5 B b zs wx → wx.cell? ⟨R, 1, none⟩ = some (.slice (some ⟨gp, 0, none⟩) ps.length cp) := fun wx hC => hC.cell b1 hRb
      clear p0 p1 fr0 fr1
      haveI : Nonempty (In (Own.CB w5 B b zs)) := ⟨⟨w5, Own.CB.one _ _ _ _ _ HG.out.src⟩⟩
      go_wp2_with fail
      refine Own.wp_region_tail 8 (Own.CB w5 B b zs) (Own.GB b) (Own.relTab [(58, Own.rA (Own.isNat 10))]) (by kernel_rfl) (by kernel_rfl) (by kernel_rfl) (by kernel_rfl) (by kernel_rfl) (by kernel_rfl) (Own.stableB_cons (Own.isNat_up _ _) (Own.stableB_nil _ _)) (Own.CB.start HG.out.src) ?_
      simp only [Own.idleTail]
      repeat (
        refine' Own.walkR_plain (by kernel_rfl) rfl rfl (fun wx hC hL => ?_) ?_
        rotate_left
        · (have hlw := hC.1.size
           have hlw1 := Nat.lt_of_lt_of_le lb hlw
           simp only [KB wx hC, hiI, hi0, hlw1, go_sem]; first | done | (go_simp; exact ⟨rfl, rfl⟩))
        simp only [Act.put, List.setIfInBounds_toArray, List.set_cons_zero, List.set_cons_succ])
      refine Own.walkR_rel (by kernel_rfl) rfl rfl (of_decide_eq_true (by kernel_rfl)) (fun wx hC hL => ?_) (fun v hv => ?_)
      · go_simp
        exact Own.callN 10 (by omega) (by omega) hC
      obtain ⟨_, _, m, rfl, hm⟩ := hv
      simp only [Act.put, List.setIfInBounds_toArray, List.set_cons_zero, List.set_cons_succ]
      have hwm : IntKind.i64.wrap ((m : Int) - 1) = (m : Int) - 1 := IntWalk.i64_in _ (by omega)
      repeat (
        refine' Own.walkR_plain (by kernel_rfl) rfl rfl (fun wx hC hL => ?_) ?_
        rotate_left
        · (have hlw := hC.1.size
           have hlw1 := Nat.lt_of_lt_of_le lb hlw
           simp only [KB wx hC, hiI, hi0, hlw1, hwm, go_sem]; first | done | (go_simp; exact ⟨rfl, rfl⟩))
        simp only [Act.put, List.setIfInBounds_toArray, List.set_cons_zero, List.set_cons_succ])
      refine Own.walkR_idle (fun wx hC => only_refl _ _) ?_
      refine fun w9 hC9 hK => ?_
      obtain ⟨hg9, q9, hs9⟩ := hC9
      have HG9 := hidIt (HG.out.call hs9 hg9)
      clear hg9 hs9 hK b0 b1 lb KB HG hgp
      obtain ⟨gp', e', hgp, -, -, fr0, fr1, p0, p1⟩ := HG9.out.cell2 hi1
      injection e' with e'
      injection e' with e'
      subst e'
      have HF := hidIt (HG9.out.put hi1 (j := 1) (by decide) (u := .int .i64 ((m : Int) - 1)) (y := (ps[i1].1, (m : Int) - 1)) rfl)
      simp only [List.drop_succ_cons, List.drop_zero]
      go_upto_region 16 with (fail)
      clear p0 p1 fr0 fr1 hgp
      generalize (w9.setCell ⟨gp, i1 * 2 + 1, none⟩ (.int .i64 ((m : Int) - 1))) = wF at *
      obtain ⟨b0, b1⟩ := And.intro (cell_two0 HF.out.box) (cell_two1 HF.out.box)
      have lb := lt_of_block HF.out.box
      have r0 := cell_two0 HF.out.res
      have r1 := cell_two1 HF.out.res
      have lr := lt_of_block HF.out.res
      have g0 := free_any HF.out.res 0
      have g1 := free_any HF.out.res 1
      go_wp2_with fail
      refine bodyPost_ret (v := .agg #[.int .i64 n, (.slice (some ⟨gp, 0, none⟩) (ps.set i1 (ps[i1].1, (m : Int) - 1)).length cp)]) (by simp [results, Try.results17, go_sem, r0, r1, lr]) rfl ?_
      exact HF.out.fin (by rw [List.length_set]; omega) _ _
    by_cases z2 : z = 2
    · subst z2
      go_upto_region 13 with (fail)
      obtain ⟨b0, b1⟩ := And.intro (cell_two0 HG.out.box) (cell_two1 HG.out.box)
      have lb := lt_of_block HG.out.box
      obtain ⟨gp, rfl, hgp, hgb, hgR, fr0, fr1, p0, p1⟩ := HG.out.cell2 hi1
      obtain ⟨px, hpx⟩ : ∃ x, x = (ps[i1]).1 := ⟨_, rfl⟩
      obtain ⟨py, hpy⟩ : ∃ x, x = (ps[i1]).2 := ⟨_, rfl⟩
      rw [← hpx] at p0
      rw [← hpy] at p1
      have KB : ∀ wx, Ext w5 wx → wx.cell? ⟨R, 1, none⟩ = some (.slice (some ⟨gp, 0, none⟩) ps.length cp) := fun wx hC => ext_cell b1 lb hC
      have P0 : ∀ wx, Ext w5 wx → wx.cell? ⟨gp, i1 * 2, none⟩ = some (.int .i64 px) := fun wx hC => ext_cell p0 hgp hC
      have P1 : ∀ wx, Ext w5 wx → wx.cell? ⟨gp, i1 * 2 + 1, none⟩ = some (.int .i64 py) := fun wx hC => ext_cell p1 hgp hC
      clear p0 p1 fr0 fr1 hpx hpy
      go_wp2_with fail
      haveI : Nonempty (In (Ext w5)) := Ext.nonempty w5
      refine Own.wp_region_tail 8 (Ext w5) Grows (Own.relTab [(71, Own.rA (Own.isBlk #[.int .i64 px, .int .i64 py] 43))]) (by kernel_rfl) (by kernel_rfl) (by kernel_rfl) (by kernel_rfl) (by kernel_rfl) (by kernel_rfl) (Own.stableO_cons (Own.isBlk_up _ _) (Own.stableO_nil _)) (Ext.start w5) ?_
      simp only [Own.idleTail]
      repeat (
        refine' Own.walkR_plain (by kernel_rfl) rfl rfl (fun wx hC hL => ?_) ?_
        rotate_left
        · (have hlw := Below.size hC
           have hlw1 := Nat.lt_of_lt_of_le lb hlw
           have hlw2 := Nat.lt_of_lt_of_le hgp hlw
           simp only [KB wx hC, P0 wx hC, P1 wx hC, hiI, hi0, hlw2, hlw1, go_sem]; first | done | (go_simp; exact ⟨rfl, rfl⟩))
        simp only [Act.put, List.setIfInBounds_toArray, List.set_cons_zero, List.set_cons_succ])
      refine Own.walkR_rel (by kernel_rfl) rfl rfl (of_decide_eq_true (by kernel_rfl)) (fun wx hC hL => ?_) (fun v hv => ?_)
      · go_simp
        exact Own.blkA hC _ _
      obtain ⟨_, _, nb, rfl, -⟩ := hv
      simp only [Act.put, List.setIfInBounds_toArray, List.set_cons_zero, List.set_cons_succ]
      refine Own.walkR_idle (fun wx _ => Below.refl _ _) ?_
      refine Own.walkR_idle (fun wx _ => Below.refl _ _) ?_
      refine Own.walkR_idle (fun wx _ => Below.refl _ _) ?_
      refine fun w10 hE10 hK => ?_
      obtain ⟨bb, e60, hnb3⟩ : Own.isBlk #[.int .i64 px, .int .i64 py] 43 (.slice (some ⟨nb, 0, none⟩) 1 1) w10 := hK.get 71 (by simp [Own.more]) rfl rfl
      injection e60 with e60
      injection e60 with e60
      injection e60 with e60
      subst e60
      have hW : Below w5.heap.size w5 w10 := hE10
      have HG7 := hidIt (HG.out.go hW)
      clear hK hE10 KB P0 P1 hW b0 b1 lb HG hgp
      have hsz7 : w.heap.size + 2 ≤ w10.heap.size := by have := HG7.out.lo; have := lt_of_block HG7.out.box; omega
      obtain ⟨L, hL⟩ : ∃ L, L = ps.length := ⟨_, rfl⟩
      have HLL := hidIt hL
      have hLb : L ≤ 1000 := by rw [hL]; omega
      have HO7 : Hid (World.ownsRow w10 (w.heap.size + 2) 43 2 (.slice (some ⟨gp, 0, none⟩) L cp) L (ps.flatMap encP)) := by
        have h := HG7.out.own
        unfold OwnP at h
        rw [← HLL.out] at h
        exact h
      simp only [← hL]
      clear hL
      simp only [List.drop_succ_cons, List.drop_zero]
      refine wpList_append_kb (by rfl) (.tmp 65) (.tmp 71) elemP (by rfl) (w.heap.size + 2) (.slice (some ⟨gp, 0, none⟩) L cp) L _ (by rfl) HO7.out nb 1 (by rfl) #[.int .i64 px, .int .i64 py] _ hnb3 rfl (one_of (by rfl)) (by omega) hsz7 ?_
      intro g8 c8 w8 hown8 hg8 hbl8
      have HL8 : Hid ((ps ++ [(px, py)]).length = L + 1) := by show _ = _; rw [List.length_append, HLL.out]; rfl
      have hQ8 := (hg8.block R (lt_of_block HG7.out.box) (fun e => (HG7.out.ne R (by rw [← HLL.out]; exact e.symm)) rfl)).trans HG7.out.box
      have HF : Hid (GT w B b R zs n (w8.setCell ⟨R, 1, none⟩ (.slice (some ⟨g8, 0, none⟩) (L + 1) c8)) (.slice (some ⟨g8, 0, none⟩) (ps ++ [(px, py)]).length c8) (ps ++ [(px, py)]) k5) := by
        show GT _ _ _ _ _ _ _ _ _ _
        rw [HL8.out]
        exact GT.app (x := (px, py)) HG7.out (by rw [← HLL.out]; exact hown8) (by rw [← HLL.out]; exact hg8) (fun g e => by
          obtain ⟨cc, hcc⟩ := owns_tag hown8 e
          exact tag_ne hcc hQ8 (by decide))
      have k0 := cell_two0 hQ8
      have k1 := cell_two1 hQ8
      have lk := lt_of_block hQ8
      have f8 := free_any hQ8 1
      clear hown8 hg8 hbl8 HO7 HG7 hsz7 hQ8 hnb3
      go_upto_region 16 with (fail)
      clear k0 k1 lk f8
      generalize (w8.setCell ⟨R, 1, none⟩ (.slice (some ⟨g8, 0, none⟩) (L + 1) c8)) = wF at *
      obtain ⟨b0, b1⟩ := And.intro (cell_two0 HF.out.box) (cell_two1 HF.out.box)
      have lb := lt_of_block HF.out.box
      have r0 := cell_two0 HF.out.res
      have r1 := cell_two1 HF.out.res
      have lr := lt_of_block HF.out.res
      have g0 := free_any HF.out.res 0
      have g1 := free_any HF.out.res 1
      go_wp2_with fail
      refine bodyPost_ret (v := .agg #[.int .i64 n, (.slice (some ⟨g8, 0, none⟩) (ps ++ [(px, py)]).length c8)]) (by simp [results, Try.results17, go_sem, r0, r1, lr]) rfl ?_
      exact HF.out.fin (by rw [HL8.out, HLL.out]; exact Nat.le_refl _) _ _
    by_cases z3 : z = 3
    · subst z3
      go_upto_region 15 with (fail)
      have h00 : 0 < ps.length := by omega
      have h00I : (0 : Int) < (ps.length : Int) := by omega
      obtain ⟨b0, b1⟩ := And.intro (cell_two0 HG.out.box) (cell_two1 HG.out.box)
      have lb := lt_of_block HG.out.box
      obtain ⟨gp, rfl, hgp, hgb, hgR, fr0, fr1, p0, p1⟩ := HG.out.cell2 hi1
      obtain ⟨gq, eq, -, -, -, fs0, fs1, q0, q1⟩ := HG.out.cell2 h00
      injection eq with eq
      injection eq with eq
      subst eq
      simp only [Nat.zero_mul, Nat.zero_add] at q0 q1 fs0 fs1
      obtain ⟨px, hpx⟩ : ∃ x, x = (ps[i1]).1 := ⟨_, rfl⟩
      obtain ⟨py, hpy⟩ : ∃ x, x = (ps[i1]).2 := ⟨_, rfl⟩
      obtain ⟨qx, hqx⟩ : ∃ x, x = (ps[0]).1 := ⟨_, rfl⟩
      obtain ⟨qy, hqy⟩ : ∃ x, x = (ps[0]).2 := ⟨_, rfl⟩
      rw [← hpx] at p0
      rw [← hpy] at p1
      rw [← hqx] at q0
      rw [← hqy] at q1
      clear hpx hpy hqx hqy
      obtain ⟨ps4, hlen4, ⟨u0, c0⟩, d0, ⟨u1, c1⟩, d1, hF⟩ : ∃ ps4 : List (Int × Int), ps4.length = ps.length ∧ (∃ u, ((w5.setCell ⟨gp, i1 * 2, none⟩ (.int .i64 qx)).setCell ⟨gp, i1 * 2 + 1, none⟩ (.int .i64 qy)).cell? ⟨gp, 0, none⟩ = some u) ∧ ((w5.setCell ⟨gp, i1 * 2, none⟩ (.int .i64 qx)).setCell ⟨gp, i1 * 2 + 1, none⟩ (.int .i64 qy)).frozen? ⟨gp, 0, none⟩ = false ∧ (∃ u, (((w5.setCell ⟨gp, i1 * 2, none⟩ (.int .i64 qx)).setCell ⟨gp, i1 * 2 + 1, none⟩ (.int .i64 qy)).setCell ⟨gp, 0, none⟩ (.int .i64 px)).cell? ⟨gp, 1, none⟩ = some u) ∧ (((w5.setCell ⟨gp, i1 * 2, none⟩ (.int .i64 qx)).setCell ⟨gp, i1 * 2 + 1, none⟩ (.int .i64 qy)).setCell ⟨gp, 0, none⟩ (.int .i64 px)).frozen? ⟨gp, 1, none⟩ = false ∧ GT w B b R zs n ((((w5.setCell ⟨gp, i1 * 2, none⟩ (.int .i64 qx)).setCell ⟨gp, i1 * 2 + 1, none⟩ (.int .i64 qy)).setCell ⟨gp, 0, none⟩ (.int .i64 px)).setCell ⟨gp, 1, none⟩ (.int .i64 py)) (.slice (some ⟨gp, 0, none⟩) ps4.length cp) ps4 k5 := by
        have h1 := HG.out.put hi1 (j := 0) (by decide) (u := .int .i64 qx) (y := (qx, ps[i1].2)) rfl
        have h2 := h1.put (i := i1) (by simpa using hi1) (j := 1) (by decide) (u := .int .i64 qy) (y := (((ps.set i1 (qx, ps[i1].2))[i1]'(by simpa using hi1)).1, qy)) rfl
        have h3 := h2.put (i := 0) (by simpa using h00) (j := 0) (by decide) (u := .int .i64 px) (y := (px, _)) rfl
        have h4 := h3.put (i := 0) (by simpa using h00) (j := 1) (by decide) (u := .int .i64 py) (y := (_, py)) rfl
        obtain ⟨ga, ea, -, -, -, m0, -, m2, -⟩ := h2.cell2 (i := 0) (by simpa using h00)
        obtain ⟨gb, eb, -, -, -, -, m1, -, m3⟩ := h3.cell2 (i := 0) (by simpa using h00)
        have e1 : gp = ga := by injection ea with ea; injection ea
        have e2 : gp = gb := by injection eb with eb; injection eb
        subst e1 e2
        simp only [Nat.add_zero, Nat.zero_mul, Nat.zero_add] at h4 m0 m1 m2 m3
        exact ⟨_, by simp, ⟨_, m2⟩, m0, ⟨_, m3⟩, m1, h4⟩
      have HF0 := hidIt hF
      have HLEN := hidIt hlen4
      clear hF hlen4
      go_region
      have HF := hidIt (HF0.out.go ((Below.refl _ _).drew))
      clear fr0 fr1 fs0 fs1 hgp HG HF0 p0 p1 q0 q1 c0 d0 c1 d1 b0 b1 lb
      go_upto_region 16 with (fail)
      generalize (World.drew ((((w5.setCell ⟨gp, i1 * 2, none⟩ (.int .i64 qx)).setCell ⟨gp, i1 * 2 + 1, none⟩ (.int .i64 qy)).setCell ⟨gp, 0, none⟩ (.int .i64 px)).setCell ⟨gp, 1, none⟩ (.int .i64 py))) = wF at *
      obtain ⟨b0, b1⟩ := And.intro (cell_two0 HF.out.box) (cell_two1 HF.out.box)
      have lb := lt_of_block HF.out.box
      have r0 := cell_two0 HF.out.res
      have r1 := cell_two1 HF.out.res
      have lr := lt_of_block HF.out.res
      have g0 := free_any HF.out.res 0
      have g1 := free_any HF.out.res 1
      go_wp2_with fail
      refine bodyPost_ret (v := .agg #[.int .i64 n, (.slice (some ⟨gp, 0, none⟩) ps4.length cp)]) (by simp [results, Try.results17, go_sem, r0, r1, lr]) rfl ?_
      exact HF.out.fin (by rw [HLEN.out]; omega) _ _
    obtain ⟨m10, hm10⟩ : ∃ m, m = z := ⟨_, rfl⟩
    clear hm10
    obtain ⟨b0, b1⟩ := And.intro (cell_two0 HG.out.box) (cell_two1 HG.out.box)
    have lb := lt_of_block HG.out.box
    have e0 : ((z : Int) == 0) = false := beq_eq_false_iff_ne.2 (by omega)
    have e1 : ((z : Int) == 1) = false := beq_eq_false_iff_ne.2 (by omega)
    have e2 : ((z : Int) == 2) = false := beq_eq_false_iff_ne.2 (by omega)
    have e3 : ((z : Int) == 3) = false := beq_eq_false_iff_ne.2 (by omega)
    go_wp2_with fail
    refine (sn_nat 10 (by decide) (by decide) B b zs k5 _ HG.out.src).mono ?_
    rintro e w6 ⟨m, k6, rfl, hm, hs6, hg6⟩
    have HG6 := hidIt (HG.out.call hs6 hg6)
    clear hs6 hg6 HG b0 b1 lb
    have HF := hidIt (HG6.out.setN ((m : Int) - 1))
    obtain ⟨b0, b1⟩ := And.intro (cell_two0 HG6.out.box) (cell_two1 HG6.out.box)
    have lb := lt_of_block HG6.out.box
    have fb := free_any HG6.out.box 0
    go_upto_region 16 with (fail)
    clear b0 b1 lb fb HG6
    generalize (w6.setCell ⟨R, 0, none⟩ (.int .i64 ((m : Int) - 1))) = wF at *
    obtain ⟨b0, b1⟩ := And.intro (cell_two0 HF.out.box) (cell_two1 HF.out.box)
    have lb := lt_of_block HF.out.box
    have r0 := cell_two0 HF.out.res
    have r1 := cell_two1 HF.out.res
    have lr := lt_of_block HF.out.res
    have g0 := free_any HF.out.res 0
    have g1 := free_any HF.out.res 1
    go_wp2_with fail
    refine bodyPost_ret (v := .agg #[.int .i64 ((m : Int) - 1), (.slice ap ps.length cp)]) (by simp [results, Try.results17, go_sem, r0, r1, lr]) rfl ?_
    exact HF.out.fin (by omega) _ _
end Go.Proofs.Ytghnojmaciljoaa
