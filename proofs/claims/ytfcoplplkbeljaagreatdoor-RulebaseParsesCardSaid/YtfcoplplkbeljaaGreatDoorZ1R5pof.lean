/- The reference's reading of a line that promotes. -/
import Derived.Test.YtfcoplplkbeljaaGreatDoorZ1T
import Derived.Test.YtfcoplplkbeljaaGreatDoorZ1U

namespace Go.Proofs.YtfcoplplkbeljaaGreatDoor
set_option linter.unusedVariables false
set_option linter.unusedSimpArgs false
open Go Go.RowKit

set_option maxRecDepth 100000 in
set_option maxHeartbeats 4000000 in
theorem r5promOf_any (s : ByteArray) (ws : List ByteArray) (B : Nat) (v : Value) (hws : ∀ x ∈ ws, x.size ≤ 100000) (w : World) (h : OwnWs w B v ws) :
    Calls Tryz.prog 106 #[.string s, v] w fun e w' => e = .returned (if promK s ws = true then lineV 3 noPm noRu (.slice none 0 0) (promC ws) else line0) ∧ Below w.heap.size w w' := by
  have HAT := hidIt (atW_size hws)
  obtain ⟨a, c, rfl, -⟩ := h.cells
  have HO := hidIt h
  have hgr0 := bgrow w (.cells #[.int .i64 0, .bool false, .string ⟨#[]⟩, .int .i64 0, .int .i64 0, .string ⟨#[]⟩, .string ⟨#[]⟩, .bool false, .int .i64 0, .slice none 0 0, .bool false, .string ⟨#[]⟩, .string ⟨#[]⟩, .int .i64 0, .bool false, .string ⟨#[]⟩] 88)
  have HB0 := hidIt hgr0
  have HZ0 := hidIt (heap_alloc_new w (.cells #[.int .i64 0, .bool false, .string ⟨#[]⟩, .int .i64 0, .int .i64 0, .string ⟨#[]⟩, .string ⟨#[]⟩, .bool false, .int .i64 0, .slice none 0 0, .bool false, .string ⟨#[]⟩, .string ⟨#[]⟩, .int .i64 0, .bool false, .string ⟨#[]⟩] 88))
  have HRS : Hid ((if promK s ws = true then lineV 3 noPm noRu (.slice none 0 0) (promC ws) else line0) = (if promK s ws = true then lineV 3 noPm noRu (.slice none 0 0) (promC ws) else line0)) := rfl
  generalize hR : (if promK s ws = true then lineV 3 noPm noRu (.slice none 0 0) (promC ws) else line0) = RES at HRS ⊢
  have HR := hidIt hR
  clear h hws hgr0 hR HRS
  go_enter Tryz.func106, Tryz.ntmps106
  go_wp2_with fail
  refine (r5at_any ws B _ 4 (by omega) _ (HO.out.go HB0.out)).mono ?_
  rintro e w1 ⟨rfl, rfl⟩
  go_wp2_with fail
  refine (rParse_any (atW ws 4) _ (Nat.le_trans (HAT.out 4) (by unfold maxLen; omega))).mono ?_
  rintro e w1 ⟨rfl, hb1⟩
  have HG1 := hidIt (Below.trans hb1 (Below.mono (bgrow w1 (.cells #[.bool (parsedNeg (atW ws 4)), .string (parsedName (atW ws 4))] 46)) hb1.size))
  have HB2 := hidIt (HB0.out.trans (Below.mono HG1.out HB0.out.size))
  have HZ2 := hidIt (blk_kept2 HZ0.out HG1.out)
  have HK2 := hidIt (heap_alloc_new w1 (.cells #[.bool (parsedNeg (atW ws 4)), .string (parsedName (atW ws 4))] 46))
  have HO2 := hidIt (HO.out.go HB2.out)
  have HN12 : Hid ((parsedName (atW ws 4)).size ≤ 12) := litW_size (atW ws 4)
  clear hb1 HB0 HZ0 HG1 HO
  go_wp2_with fail
  obtain ⟨p5, hp5⟩ : ∃ p, p = w1.heap.size := ⟨_, rfl⟩
  rw [← hp5] at HK2 ⊢
  clear hp5
  generalize (w1.alloc (.cells #[.bool (parsedNeg (atW ws 4)), .string (parsedName (atW ws 4))] 46)) = w2 at *
  obtain ⟨k0, k1⟩ := bcell2r HK2.out
  have lk := lt_of_block HK2.out
  have K0 : ∀ wx, Ext w2 wx → wx.cell? ⟨p5, 0, none⟩ = some (.bool (parsedNeg (atW ws 4))) := fun wx hC => (Below.cell (p := ⟨p5, 0, none⟩) hC lk).trans k0
  have K1 : ∀ wx, Ext w2 wx → wx.cell? ⟨p5, 1, none⟩ = some (.string (parsedName (atW ws 4))) := fun wx hC => (Below.cell (p := ⟨p5, 1, none⟩) hC lk).trans k1
  haveI := Ext.nonempty w2
  refine Own.wp_region_tail 8 (Ext w2) Grows (Own.relTab [(15, Own.rA (Own.isVal (.string (atW ws 1)))), (17, Own.rA (Own.isVal (.string (atW ws 2)))), (18, Own.rA (Own.isVal (.int .i64 (numW (atW ws 2))))), (7, Own.rA (Own.isBoxR w2.heap.size #[.string ⟨#[]⟩, .int .i64 0, .bool false, .string ⟨#[]⟩] 78))]) (by kernel_rfl) (by kernel_rfl) (by kernel_rfl) (by kernel_rfl) (by kernel_rfl) (by kernel_rfl) (Own.stableO_cons (Own.isVal_up _) (Own.stableO_cons (Own.isVal_up _) (Own.stableO_cons (Own.isVal_up _) (Own.stableO_cons (Own.isBoxR_up _ _ _) (Own.stableO_nil _))))) (Ext.start w2) ?_
  simp only [Own.idleTail]
  repeat (
    refine' Own.walkR_plain (by kernel_rfl) rfl rfl (fun wx hC hL => ?_) ?_
    rotate_left
    · (have hlw := Nat.lt_of_lt_of_le lk (Below.size hC)
       simp only [K0 wx hC, K1 wx hC, hlw, go_sem]; first | done | (go_simp; exact ⟨rfl, rfl⟩))
    simp only [Act.put, List.setIfInBounds_toArray, List.set_cons_zero, List.set_cons_succ])
  refine Own.walkR_rel (by kernel_rfl) rfl rfl (of_decide_eq_true (by kernel_rfl)) (fun wx hC hL => ?_) (fun v15 hv15 => ?_)
  · go_simp
    exact Own.callV5 hC (r5at_any ws B _ 1 (by omega) wx (HO2.out.go hC))
  obtain ⟨_, _, rfl⟩ := hv15
  simp only [Act.put, List.setIfInBounds_toArray, List.set_cons_zero, List.set_cons_succ]
  repeat (
    refine' Own.walkR_plain (by kernel_rfl) rfl rfl (fun wx hC hL => ?_) ?_
    rotate_left
    · (have hlw := Nat.lt_of_lt_of_le lk (Below.size hC)
       simp only [K0 wx hC, K1 wx hC, hlw, go_sem]; first | done | (go_simp; exact ⟨rfl, rfl⟩))
    simp only [Act.put, List.setIfInBounds_toArray, List.set_cons_zero, List.set_cons_succ])
  refine Own.walkR_rel (by kernel_rfl) rfl rfl (of_decide_eq_true (by kernel_rfl)) (fun wx hC hL => ?_) (fun v17 hv17 => ?_)
  · go_simp
    exact Own.callV5 hC (r5at_any ws B _ 2 (by omega) wx (HO2.out.go hC))
  obtain ⟨_, _, rfl⟩ := hv17
  simp only [Act.put, List.setIfInBounds_toArray, List.set_cons_zero, List.set_cons_succ]
  refine Own.walkR_rel (by kernel_rfl) rfl rfl (of_decide_eq_true (by kernel_rfl)) (fun wx hC hL => ?_) (fun v18 hv18 => ?_)
  · go_simp
    exact Own.callV5 hC (r5number_any (atW ws 2) (Nat.le_trans (HAT.out 2) (by unfold maxLen; omega)) wx)
  obtain ⟨_, _, rfl⟩ := hv18
  simp only [Act.put, List.setIfInBounds_toArray, List.set_cons_zero, List.set_cons_succ]
  repeat (
    refine' Own.walkR_plain (by kernel_rfl) rfl rfl (fun wx hC hL => ?_) ?_
    rotate_left
    · (have hlw := Nat.lt_of_lt_of_le lk (Below.size hC)
       simp only [K0 wx hC, K1 wx hC, hlw, go_sem]; first | done | (go_simp; exact ⟨rfl, rfl⟩))
    simp only [Act.put, List.setIfInBounds_toArray, List.set_cons_zero, List.set_cons_succ])
  refine Own.walkR_rel (by kernel_rfl) rfl rfl (of_decide_eq_true (by kernel_rfl)) (fun wx hC hL => ?_) (fun v7 hv7 => ?_)
  · go_simp
    exact Own.boxRA hC _ _
  obtain ⟨_, _, R, rfl, hRg, -⟩ := hv7
  simp only [Act.put, List.setIfInBounds_toArray, List.set_cons_zero, List.set_cons_succ]
  refine Own.walkR_idle (fun wx hC => Below.refl _ _) ?_
  refine fun w3 hC3 hK => ?_
  obtain ⟨R', eR, hR1, hRb⟩ : Own.isBoxR w2.heap.size #[.string ⟨#[]⟩, .int .i64 0, .bool false, .string ⟨#[]⟩] 78 (.pointer (some ⟨R, 0, none⟩)) w3 := hK.get 7 (by simp [Own.more]) rfl rfl
  injection eR with eR
  injection eR with eR
  injection eR with eR
  subst eR
  have hC3' : Below w2.heap.size w2 w3 := hC3
  have HZ3 := hidIt (blk_kept2 HZ2.out hC3')
  have HB3 := hidIt (HB2.out.trans (Below.mono hC3' HB2.out.size))
  have hwz := lt_of_block HZ2.out
  clear hK hC3 hC3' K0 K1 k0 k1 lk HK2 HZ2 HB2
  simp only [List.drop_succ_cons, List.drop_zero]
  have f0 := free_any hRb 0
  have f1 := free_any hRb 1
  have f2 := free_any hRb 2
  have f3 := free_any hRb 3
  obtain ⟨z0, z1, z2, z3⟩ := bcell4 hRb
  have lR := lt_of_block hRb
  go_upto_region 3 with (fail)
  have hset : ∀ k, k ≠ R → ((((w3.setCell ⟨R, 0, none⟩ (.string (atW ws 1))).setCell ⟨R, 1, none⟩ (.int .i64 (numW (atW ws 2)))).setCell ⟨R, 2, none⟩ (.bool (parsedNeg (atW ws 4)))).setCell ⟨R, 3, none⟩ (.string (parsedName (atW ws 4)))).heap[k]? = w3.heap[k]? := fun k hk => by
    rw [Below.heap_setCell _ ⟨R, 3, none⟩ _ k hk, Below.heap_setCell _ ⟨R, 2, none⟩ _ k hk, Below.heap_setCell _ ⟨R, 1, none⟩ _ k hk, Below.heap_setCell _ ⟨R, 0, none⟩ _ k hk]
  have HP4 := hidIt (set_cells (i := 3) (u := .string (parsedName (atW ws 4))) (set_cells (i := 2) (u := .bool (parsedNeg (atW ws 4))) (set_cells (i := 1) (u := .int .i64 (numW (atW ws 2))) (set_cells (i := 0) (u := .string (atW ws 1)) hRb))))
  have HZ4 := hidIt ((hset w.heap.size (by omega)).trans HZ3.out)
  have HB4 := hidIt (below_set5 (below_set5 (below_set5 (below_set5 HB3.out (show w.heap.size ≤ R by omega) (i := 0) (u := .string (atW ws 1))) (show w.heap.size ≤ R by omega) (i := 1) (u := .int .i64 (numW (atW ws 2)))) (show w.heap.size ≤ R by omega) (i := 2) (u := .bool (parsedNeg (atW ws 4)))) (show w.heap.size ≤ R by omega) (i := 3) (u := .string (parsedName (atW ws 4))))
  clear f0 f1 f2 f3 z0 z1 z2 z3 lR hset hRb HZ3 HB3
  generalize ((((w3.setCell ⟨R, 0, none⟩ (.string (atW ws 1))).setCell ⟨R, 1, none⟩ (.int .i64 (numW (atW ws 2)))).setCell ⟨R, 2, none⟩ (.bool (parsedNeg (atW ws 4)))).setCell ⟨R, 3, none⟩ (.string (parsedName (atW ws 4)))) = w4 at *
  have HP5 : Hid (w4.heap[R]? = some (.cells #[.string (atW ws 1), .int .i64 (numW (atW ws 2)), .bool (parsedNeg (atW ws 4)), .string (parsedName (atW ws 4))] 78 (0, 0))) := HP4.out
  clear HP4
  obtain ⟨q0, q1, q2, q3⟩ := bcell4 HP5.out
  have lq := lt_of_block HP5.out
  go_cut [6, 40] from 8 (fun _ c wx => c = .bool (!promK s ws) ∧ wx.heap[R]? = some (.cells #[.string (atW ws 1), .int .i64 (numW (atW ws 2)), .bool (parsedNeg (atW ws 4)), .string (parsedName (atW ws 4))] 78 (0, 0)) ∧ wx.heap[w.heap.size]? = some (.cells #[.int .i64 0, .bool false, .string ⟨#[]⟩, .int .i64 0, .int .i64 0, .string ⟨#[]⟩, .string ⟨#[]⟩, .bool false, .int .i64 0, .slice none 0 0, .bool false, .string ⟨#[]⟩, .string ⟨#[]⟩, .int .i64 0, .bool false, .string ⟨#[]⟩] 88 (0, 0)) ∧ Below w.heap.size w wx)
  case first =>
    cases ho : litOk (atW ws 4)
    · have hpe : parsedErr (atW ws 4) = 3 := by unfold parsedErr; rw [if_neg (by unfold litOk at ho; rw [ho]; decide)]
      have HN : Hid (promK s ws = false) := by show _ = _; unfold promK; rw [ho]; rfl
      rw [hpe]
      clear ho hpe
      go_wp2_with fail
      go_meet
      exact ⟨by rw [HN.out]; rfl, HP5.out, HZ4.out, HB4.out⟩
    have hpe : parsedErr (atW ws 4) = 0 := by unfold parsedErr; rw [if_pos (by unfold litOk at ho; exact ho)]
    rw [hpe]
    have HLO := hidIt ho
    clear ho hpe
    go_wp2_with fail
    refine (rValidName_any (atW ws 1) _ (Nat.le_trans (HAT.out 1) (by unfold maxLen; omega))).mono ?_
    rintro e w5 ⟨rfl, rfl⟩
    cases hv : vn (atW ws 1)
    · have HN : Hid (promK s ws = false) := by show _ = _; unfold promK; rw [hv, HLO.out]; rfl
      clear hv
      go_wp2_with fail
      go_meet
      exact ⟨by rw [HN.out]; rfl, HP5.out, HZ4.out, HB4.out⟩
    have HV := hidIt hv
    clear hv
    go_wp2_with fail
    refine (r5rank_any _ _).mono ?_
    rintro e w5 ⟨rfl, rfl⟩
    by_cases hk : 0 ≤ numW (atW ws 2) ∧ numW (atW ws 2) ≤ 9
    · rw [decide_eq_true hk]
      have HK := hidIt hk
      clear hk
      go_wp2_with fail
      refine (r5promLine_any (promC ws) (numW (atW ws 2)).toNat (by have := HK.out; omega) (by have := HK.out; show numW (atW ws 2) = _; omega) (vn_le12 HV.out) HN12.out _).mono ?_
      rintro e w5 ⟨rfl, hb5⟩
      have HZ5 := hidIt (blk_kept2 HZ4.out hb5)
      have HP6 := hidIt (blk_kept2 HP5.out hb5)
      have HB5 := hidIt (HB4.out.trans (Below.mono hb5 HB4.out.size))
      clear hb5 q0 q1 q2 q3 lq HZ4 HP5 HB4
      cases ht : ((promT (promC ws) (numW (atW ws 2)).toNat).toList == s.toList)
      · have HN : Hid (promK s ws = false) := by show _ = _; unfold promK; rw [ht, HV.out, HLO.out, decide_eq_true HK.out]; rfl
        go_wp2_with fail
        go_meet
        exact ⟨by rw [HN.out]; rfl, HP6.out, HZ5.out, HB5.out⟩
      · have HY : Hid (promK s ws = true) := by show _ = _; unfold promK; rw [ht, HV.out, HLO.out, decide_eq_true HK.out]; rfl
        go_wp2_with fail
        go_meet
        exact ⟨by rw [HY.out]; rfl, HP6.out, HZ5.out, HB5.out⟩
    · rw [decide_eq_false hk]
      have HN : Hid (promK s ws = false) := by show _ = _; unfold promK; rw [HV.out, HLO.out, decide_eq_false hk]; rfl
      clear hk
      go_wp2_with fail
      go_meet
      exact ⟨by rw [HN.out]; rfl, HP5.out, HZ4.out, HB4.out⟩
  case rest =>
    obtain ⟨rfl, hP6, hZ6, hB6⟩ := hcut
    have HP6 := hidIt hP6
    have HZ6 := hidIt hZ6
    have HB6 := hidIt hB6
    clear hP6 hZ6 hB6 q0 q1 q2 q3 lq HZ4 HP5 HB4
    cases hpk : promK s ws
    · have HN : Hid (¬ promK s ws = true) := by show ¬ _; rw [hpk]; decide
      clear hpk
      obtain ⟨z0, z1, z2, z3, z4, z5, z6, z7, z8, z9, za, zb, zc, zd, ze, zf⟩ := bcell16 HZ6.out
      have f0 := free_any HZ6.out 0
      have f1 := free_any HZ6.out 1
      have f2 := free_any HZ6.out 2
      have f3 := free_any HZ6.out 3
      have f4 := free_any HZ6.out 4
      have f5 := free_any HZ6.out 5
      have f6 := free_any HZ6.out 6
      have f7 := free_any HZ6.out 7
      have f8 := free_any HZ6.out 8
      have f9 := free_any HZ6.out 9
      have f10 := free_any HZ6.out 10
      have f11 := free_any HZ6.out 11
      have f12 := free_any HZ6.out 12
      have f13 := free_any HZ6.out 13
      have f14 := free_any HZ6.out 14
      have f15 := free_any HZ6.out 15
      have lz := lt_of_block HZ6.out
      go_wp2_with fail
      obtain ⟨w9, hw9⟩ : ∃ x, x = ((((((((((((((((wc.setCell ⟨w.heap.size, 0, none⟩ (.int .i64 0)).setCell ⟨w.heap.size, 1, none⟩ (.bool false)).setCell ⟨w.heap.size, 2, none⟩ (.string ⟨#[]⟩)).setCell ⟨w.heap.size, 3, none⟩ (.int .i64 0)).setCell ⟨w.heap.size, 4, none⟩ (.int .i64 0)).setCell ⟨w.heap.size, 5, none⟩ (.string ⟨#[]⟩)).setCell ⟨w.heap.size, 6, none⟩ (.string ⟨#[]⟩)).setCell ⟨w.heap.size, 7, none⟩ (.bool false)).setCell ⟨w.heap.size, 8, none⟩ (.int .i64 0)).setCell ⟨w.heap.size, 9, none⟩ (.slice none 0 0)).setCell ⟨w.heap.size, 10, none⟩ (.bool false)).setCell ⟨w.heap.size, 11, none⟩ (.string ⟨#[]⟩)).setCell ⟨w.heap.size, 12, none⟩ (.string ⟨#[]⟩)).setCell ⟨w.heap.size, 13, none⟩ (.int .i64 0)).setCell ⟨w.heap.size, 14, none⟩ (.bool false)).setCell ⟨w.heap.size, 15, none⟩ (.string ⟨#[]⟩)) := ⟨_, rfl⟩
      rw [← hw9]
      have HF2 : Hid (w9.heap[w.heap.size]? = some (.cells #[.int .i64 0, .bool false, .string ⟨#[]⟩, .int .i64 0, .int .i64 0, .string ⟨#[]⟩, .string ⟨#[]⟩, .bool false, .int .i64 0, .slice none 0 0, .bool false, .string ⟨#[]⟩, .string ⟨#[]⟩, .int .i64 0, .bool false, .string ⟨#[]⟩] 88 (0, 0))) := by rw [hw9]; exact put16_heap HZ6.out (.int .i64 0) (.bool false) (.string ⟨#[]⟩) (.int .i64 0) (.int .i64 0) (.string ⟨#[]⟩) (.string ⟨#[]⟩) (.bool false) (.int .i64 0) (.slice none 0 0) (.bool false) (.string ⟨#[]⟩) (.string ⟨#[]⟩) (.int .i64 0) (.bool false) (.string ⟨#[]⟩)
      have HBF : Hid (Below w.heap.size w w9) := by rw [hw9]; exact put16_below HB6.out (Nat.le_refl _) (.int .i64 0) (.bool false) (.string ⟨#[]⟩) (.int .i64 0) (.int .i64 0) (.string ⟨#[]⟩) (.string ⟨#[]⟩) (.bool false) (.int .i64 0) (.slice none 0 0) (.bool false) (.string ⟨#[]⟩) (.string ⟨#[]⟩) (.int .i64 0) (.bool false) (.string ⟨#[]⟩)
      clear hw9 f0 f1 f2 f3 f4 f5 f6 f7 f8 f9 f10 f11 f12 f13 f14 f15 z0 z1 z2 z3 z4 z5 z6 z7 z8 z9 za zb zc zd ze zf lz
      obtain ⟨z0, z1, z2, z3, z4, z5, z6, z7, z8, z9, za, zb, zc, zd, ze, zf⟩ := bcell16 HF2.out
      have lz := lt_of_block HF2.out
      refine bodyPost_ret (v := .agg #[.int .i64 0, .bool false, .string ⟨#[]⟩, .int .i64 0, .int .i64 0, .string ⟨#[]⟩, .string ⟨#[]⟩, .bool false, .int .i64 0, .slice none 0 0, .bool false, .string ⟨#[]⟩, .string ⟨#[]⟩, .int .i64 0, .bool false, .string ⟨#[]⟩]) (by simp [results, Tryz.results106, go_sem, z0, z1, z2, z3, z4, z5, z6, z7, z8, z9, za, zb, zc, zd, ze, zf, lz]) rfl ?_
      exact ⟨by rw [← HR.out, if_neg HN.out]; rfl, HBF.out⟩
    · have HY : Hid (promK s ws = true) := hpk
      clear hpk
      obtain ⟨q0, q1, q2, q3⟩ := bcell4 HP6.out
      have lq := lt_of_block HP6.out
      obtain ⟨z0, z1, z2, z3, z4, z5, z6, z7, z8, z9, za, zb, zc, zd, ze, zf⟩ := bcell16 HZ6.out
      have f0 := free_any HZ6.out 0
      have f1 := free_any HZ6.out 1
      have f2 := free_any HZ6.out 2
      have f3 := free_any HZ6.out 3
      have f4 := free_any HZ6.out 4
      have f5 := free_any HZ6.out 5
      have f6 := free_any HZ6.out 6
      have f7 := free_any HZ6.out 7
      have f8 := free_any HZ6.out 8
      have f9 := free_any HZ6.out 9
      have f10 := free_any HZ6.out 10
      have f11 := free_any HZ6.out 11
      have f12 := free_any HZ6.out 12
      have f13 := free_any HZ6.out 13
      have f14 := free_any HZ6.out 14
      have f15 := free_any HZ6.out 15
      have lz := lt_of_block HZ6.out
      go_wp2_with fail
      obtain ⟨w9, hw9⟩ : ∃ x, x = ((((((((((((((((wc.setCell ⟨w.heap.size, 0, none⟩ (.int .i64 3)).setCell ⟨w.heap.size, 1, none⟩ (.bool false)).setCell ⟨w.heap.size, 2, none⟩ (.string ⟨#[]⟩)).setCell ⟨w.heap.size, 3, none⟩ (.int .i64 0)).setCell ⟨w.heap.size, 4, none⟩ (.int .i64 0)).setCell ⟨w.heap.size, 5, none⟩ (.string ⟨#[]⟩)).setCell ⟨w.heap.size, 6, none⟩ (.string ⟨#[]⟩)).setCell ⟨w.heap.size, 7, none⟩ (.bool false)).setCell ⟨w.heap.size, 8, none⟩ (.int .i64 0)).setCell ⟨w.heap.size, 9, none⟩ (.slice none 0 0)).setCell ⟨w.heap.size, 10, none⟩ (.bool false)).setCell ⟨w.heap.size, 11, none⟩ (.string ⟨#[]⟩)).setCell ⟨w.heap.size, 12, none⟩ (.string (atW ws 1))).setCell ⟨w.heap.size, 13, none⟩ (.int .i64 (numW (atW ws 2)))).setCell ⟨w.heap.size, 14, none⟩ (.bool (parsedNeg (atW ws 4)))).setCell ⟨w.heap.size, 15, none⟩ (.string (parsedName (atW ws 4)))) := ⟨_, rfl⟩
      rw [← hw9]
      have HF2 : Hid (w9.heap[w.heap.size]? = some (.cells #[.int .i64 3, .bool false, .string ⟨#[]⟩, .int .i64 0, .int .i64 0, .string ⟨#[]⟩, .string ⟨#[]⟩, .bool false, .int .i64 0, .slice none 0 0, .bool false, .string ⟨#[]⟩, .string (atW ws 1), .int .i64 (numW (atW ws 2)), .bool (parsedNeg (atW ws 4)), .string (parsedName (atW ws 4))] 88 (0, 0))) := by rw [hw9]; exact put16_heap HZ6.out (.int .i64 3) (.bool false) (.string ⟨#[]⟩) (.int .i64 0) (.int .i64 0) (.string ⟨#[]⟩) (.string ⟨#[]⟩) (.bool false) (.int .i64 0) (.slice none 0 0) (.bool false) (.string ⟨#[]⟩) (.string (atW ws 1)) (.int .i64 (numW (atW ws 2))) (.bool (parsedNeg (atW ws 4))) (.string (parsedName (atW ws 4)))
      have HBF : Hid (Below w.heap.size w w9) := by rw [hw9]; exact put16_below HB6.out (Nat.le_refl _) (.int .i64 3) (.bool false) (.string ⟨#[]⟩) (.int .i64 0) (.int .i64 0) (.string ⟨#[]⟩) (.string ⟨#[]⟩) (.bool false) (.int .i64 0) (.slice none 0 0) (.bool false) (.string ⟨#[]⟩) (.string (atW ws 1)) (.int .i64 (numW (atW ws 2))) (.bool (parsedNeg (atW ws 4))) (.string (parsedName (atW ws 4)))
      clear hw9 f0 f1 f2 f3 f4 f5 f6 f7 f8 f9 f10 f11 f12 f13 f14 f15 z0 z1 z2 z3 z4 z5 z6 z7 z8 z9 za zb zc zd ze zf lz
      obtain ⟨z0, z1, z2, z3, z4, z5, z6, z7, z8, z9, za, zb, zc, zd, ze, zf⟩ := bcell16 HF2.out
      have lz := lt_of_block HF2.out
      refine bodyPost_ret (v := .agg #[.int .i64 3, .bool false, .string ⟨#[]⟩, .int .i64 0, .int .i64 0, .string ⟨#[]⟩, .string ⟨#[]⟩, .bool false, .int .i64 0, .slice none 0 0, .bool false, .string ⟨#[]⟩, .string (atW ws 1), .int .i64 (numW (atW ws 2)), .bool (parsedNeg (atW ws 4)), .string (parsedName (atW ws 4))]) (by simp [results, Tryz.results106, go_sem, z0, z1, z2, z3, z4, z5, z6, z7, z8, z9, za, zb, zc, zd, ze, zf, lz]) rfl ?_
      exact ⟨by rw [← HR.out, if_pos HY.out]; rfl, HBF.out⟩
end Go.Proofs.YtfcoplplkbeljaaGreatDoor
