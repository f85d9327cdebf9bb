/- The reference's reading of a line of a rule, where all words of its body are literals; all together. -/
import Derived.Test.YtfcoplplkbeljaaGreatDoorZ1Y

namespace Go.Proofs.YtfcoplplkbeljaaGreatDoor
set_option linter.unusedVariables false
set_option linter.unusedSimpArgs false
open Go Go.RowKit

set_option maxRecDepth 100000 in
set_option maxHeartbeats 4000000 in
theorem r5ruleOf_Y (s : ByteArray) (ws : List ByteArray) (B : Nat) (v : Value) (hws : ∀ x ∈ ws, x.size ≤ 100000) (hl : 0 < ws.length) (hl2 : ws.length ≤ 5000) (w : World) (h : OwnWs w B v ws) (hcase : ((ruleSt ws || decide ((atW ws 2).size = 2)) && (ruleBw ws).all litOk) = true) :
    Calls Tryz.prog 105 #[.string s, v] w fun e w' => ∃ v : Value, e = .returned v ∧ RuRes s ws w v w' ∧ Below w.heap.size w w' := by
  have HAT := hidIt (atW_size hws)
  have HBS := hidIt (bodyW_size hws)
  have HCASE := hidIt hcase
  clear hcase
  obtain ⟨a, c, rfl, hc0⟩ := h.cells
  have HCW := hidIt hc0
  obtain ⟨g0, rfl, hg0, hcell0⟩ := hc0 0 hl
  have hat0 : ws[0] = atW ws 0 := by unfold atW; rw [List.getD_eq_getElem?_getD, List.getElem?_eq_getElem hl]; rfl
  rw [hat0] at hcell0
  have HO := hidIt h
  have hlI : (0 : Int) < (ws.length : Int) := by omega
  have hlI2 : (ws.length : Int) ≤ 5000 := by omega
  have hgr0 := bgrow w (.cells #[.int .i64 0, .bool false, .string ⟨#[]⟩, .int .i64 0, .int .i64 0, .string ⟨#[]⟩, .string ⟨#[]⟩, .bool false, .int .i64 0, .slice none 0 0, .bool false, .string ⟨#[]⟩, .string ⟨#[]⟩, .int .i64 0, .bool false, .string ⟨#[]⟩] 88)
  have HZ0 := hidIt (heap_alloc_new w (.cells #[.int .i64 0, .bool false, .string ⟨#[]⟩, .int .i64 0, .int .i64 0, .string ⟨#[]⟩, .string ⟨#[]⟩, .bool false, .int .i64 0, .slice none 0 0, .bool false, .string ⟨#[]⟩, .string ⟨#[]⟩, .int .i64 0, .bool false, .string ⟨#[]⟩] 88))
  have HB0 := hidIt hgr0
  have HC0 := hidIt ((Below.cell (p := ⟨g0, 0, none⟩) hgr0 hg0).trans hcell0)
  have hgs0 : g0 < (w.alloc (.cells #[.int .i64 0, .bool false, .string ⟨#[]⟩, .int .i64 0, .int .i64 0, .string ⟨#[]⟩, .string ⟨#[]⟩, .bool false, .int .i64 0, .slice none 0 0, .bool false, .string ⟨#[]⟩, .string ⟨#[]⟩, .int .i64 0, .bool false, .string ⟨#[]⟩] 88)).heap.size := Nat.lt_of_lt_of_le hg0 hgr0.size
  clear h hws hgr0 hcell0 hat0 hc0
  go_enter Tryz.func105, Tryz.ntmps105
  go_wp2_with fail
  generalize hw1 : w.alloc (.cells #[.int .i64 0, .bool false, .string ⟨#[]⟩, .int .i64 0, .int .i64 0, .string ⟨#[]⟩, .string ⟨#[]⟩, .bool false, .int .i64 0, .slice none 0 0, .bool false, .string ⟨#[]⟩, .string ⟨#[]⟩, .int .i64 0, .bool false, .string ⟨#[]⟩] 88) = w1 at *
  have HSZ1 : Hid (w1.heap.size = w.heap.size + 1) := by show _ = _; rw [← hw1, size_alloc]
  clear hw1
  have HO1 := hidIt (HO.out.go HB0.out)
  have K0 : ∀ wx, Ext w1 wx → wx.cell? ⟨g0, 0, none⟩ = some (.string (atW ws 0)) := fun wx hC => (Below.cell (p := ⟨g0, 0, none⟩) hC hgs0).trans HC0.out
  haveI := Ext.nonempty w1
  refine Own.wp_region_tail 8 (Ext w1) Grows (Own.relTab [(19, Own.rA (Own.isVal (.string (atW ws 1)))), (5, Own.rA (Own.isBoxR w1.heap.size #[.string ⟨#[]⟩, .bool false, .int .i64 0, .slice none 0 0, .bool false, .string ⟨#[]⟩] 64))]) (by kernel_rfl) (by kernel_rfl) (by kernel_rfl) (by kernel_rfl) (by kernel_rfl) (by kernel_rfl) (Own.stableO_cons (Own.isVal_up _) (Own.stableO_cons (Own.isBoxR_up _ _ _) (Own.stableO_nil _))) (Ext.start w1) ?_
  simp only [Own.idleTail]
  repeat (
    refine' Own.walkR_plain (by kernel_rfl) rfl rfl (fun wx hC hL => ?_) ?_
    rotate_left
    · (have hlw := Nat.lt_of_lt_of_le hgs0 (Below.size hC)
       simp only [K0 wx hC, hlI, hlw, go_sem]; first | done | (go_simp; exact ⟨rfl, rfl⟩))
    simp only [Act.put, List.setIfInBounds_toArray, List.set_cons_zero, List.set_cons_succ])
  refine Own.walkR_rel (by kernel_rfl) rfl rfl (of_decide_eq_true (by kernel_rfl)) (fun wx hC hL => ?_) (fun v19 hv19 => ?_)
  · go_simp
    exact Own.callV5 hC (r5at_any ws B _ 1 (by omega) wx (HO1.out.go hC))
  obtain ⟨_, _, rfl⟩ := hv19
  simp only [Act.put, List.setIfInBounds_toArray, List.set_cons_zero, List.set_cons_succ]
  repeat (
    refine' Own.walkR_plain (by kernel_rfl) rfl rfl (fun wx hC hL => ?_) ?_
    rotate_left
    · (have hlw := Nat.lt_of_lt_of_le hgs0 (Below.size hC)
       simp only [K0 wx hC, hlI, hlw, go_sem]; first | done | (go_simp; exact ⟨rfl, rfl⟩))
    simp only [Act.put, List.setIfInBounds_toArray, List.set_cons_zero, List.set_cons_succ])
  refine Own.walkR_rel (by kernel_rfl) rfl rfl (of_decide_eq_true (by kernel_rfl)) (fun wx hC hL => ?_) (fun v5 hv5 => ?_)
  · go_simp
    exact Own.boxRA hC _ _
  obtain ⟨_, _, R, rfl, hRg, -⟩ := hv5
  simp only [Act.put, List.setIfInBounds_toArray, List.set_cons_zero, List.set_cons_succ]
  refine Own.walkR_idle (fun wx hC => Below.refl _ _) ?_
  refine fun w3 hC3 hK => ?_
  obtain ⟨R', eR, hR1, hRb⟩ : Own.isBoxR w1.heap.size #[.string ⟨#[]⟩, .bool false, .int .i64 0, .slice none 0 0, .bool false, .string ⟨#[]⟩] 64 (.pointer (some ⟨R, 0, none⟩)) w3 := hK.get 5 (by simp [Own.more]) rfl rfl
  injection eR with eR
  injection eR with eR
  injection eR with eR
  subst eR
  have hC3' : Below w1.heap.size w1 w3 := hC3
  have hgt : w.heap.size < R := by have := HSZ1.out; omega
  have HZ3 := hidIt (blk_kept2 HZ0.out hC3')
  have HB3 := hidIt (HB0.out.trans (Below.mono hC3' HB0.out.size))
  clear hK hC3 hC3' K0 HZ0 HB0 HC0 hgs0
  simp only [List.drop_succ_cons, List.drop_zero]
  have f0 := free_any hRb 0
  have f1 := free_any hRb 1
  have f2 := free_any hRb 2
  have f3 := free_any hRb 3
  have f4 := free_any hRb 4
  have f5 := free_any hRb 5
  obtain ⟨z0, z1, z2, z3, z4, z5⟩ := bcell6 hRb
  have lR := lt_of_block hRb
  go_upto_region 2 with (fail)
  have HS : Hid (Ru5 w R ((((((w3.setCell ⟨R, 0, none⟩ (.string (atW ws 1))).setCell ⟨R, 1, none⟩ (.bool ((atW ws 0).toList == [115, 116, 114, 105, 99, 116]))).setCell ⟨R, 2, none⟩ (.int .i64 0)).setCell ⟨R, 3, none⟩ (.slice none 0 0)).setCell ⟨R, 4, none⟩ (.bool false)).setCell ⟨R, 5, none⟩ (.string ⟨#[]⟩)) (atW ws 1) (ruleSt ws) 0 (.slice none 0 0) [] ⟨false, ⟨#[]⟩⟩) := by
    refine ⟨?_, set_blk6 hRb, ?_, ?_, hgt⟩
    · rw [Below.heap_setCell _ ⟨R, 5, none⟩ _ w.heap.size (by show w.heap.size ≠ R; omega), Below.heap_setCell _ ⟨R, 4, none⟩ _ w.heap.size (by show w.heap.size ≠ R; omega), Below.heap_setCell _ ⟨R, 3, none⟩ _ w.heap.size (by show w.heap.size ≠ R; omega), Below.heap_setCell _ ⟨R, 2, none⟩ _ w.heap.size (by show w.heap.size ≠ R; omega), Below.heap_setCell _ ⟨R, 1, none⟩ _ w.heap.size (by show w.heap.size ≠ R; omega), Below.heap_setCell _ ⟨R, 0, none⟩ _ w.heap.size (by show w.heap.size ≠ R; omega)]
      exact HZ3.out
    · exact OwnL.nil _ _
    · exact below_set5 (below_set5 (below_set5 (below_set5 (below_set5 (below_set5 HB3.out (Nat.le_of_lt hgt) (i := 0) (u := .string (atW ws 1))) (Nat.le_of_lt hgt) (i := 1) (u := .bool ((atW ws 0).toList == [115, 116, 114, 105, 99, 116]))) (Nat.le_of_lt hgt) (i := 2) (u := .int .i64 0)) (Nat.le_of_lt hgt) (i := 3) (u := .slice none 0 0)) (Nat.le_of_lt hgt) (i := 4) (u := .bool false)) (Nat.le_of_lt hgt) (i := 5) (u := .string ⟨#[]⟩)
  clear f0 f1 f2 f3 f4 f5 z0 z1 z2 z3 z4 z5 lR hRb HZ3 HB3
  generalize ((((((w3.setCell ⟨R, 0, none⟩ (.string (atW ws 1))).setCell ⟨R, 1, none⟩ (.bool ((atW ws 0).toList == [115, 116, 114, 105, 99, 116]))).setCell ⟨R, 2, none⟩ (.int .i64 0)).setCell ⟨R, 3, none⟩ (.slice none 0 0)).setCell ⟨R, 4, none⟩ (.bool false)).setCell ⟨R, 5, none⟩ (.string ⟨#[]⟩)) = w4 at *
  -- the name and the rank
  have hz1 : ((atW ws 1).size : Int) ≤ 100000 := by have := HAT.out 1; omega
  obtain ⟨C, hC⟩ : ∃ C, C = (ruleSt ws && decide (0 < (atW ws 1).size)) := ⟨_, rfl⟩
  have HC := hidIt hC
  clear hC
  go_upto_region 3 with (fail)
  go_cut [28] from 14 (fun c wx => c = .bool C ∧ w4 = wx)
  case first =>
    obtain ⟨x0, x1, x2, x3, x4, x5⟩ := bcell6 HS.out.rul
    have lx := HS.out.lt
    cases hst : ruleSt ws
    · rw [hst] at x1
      have EC : Hid (C = false) := by show _ = _; rw [HC.out, hst]; rfl
      go_wp2_with fail
      go_meet
      exact ⟨by rw [EC.out], rfl⟩
    · rw [hst] at x1
      by_cases h1 : 0 < (atW ws 1).size
      · have h1I : (0 : Int) < ((atW ws 1).size : Int) := by omega
        have EC : Hid (C = true) := by show _ = _; rw [HC.out, hst, decide_eq_true h1]; rfl
        go_wp2_with fail
        go_meet
        exact ⟨by rw [EC.out], rfl⟩
      · have h1I : ¬ (0 : Int) < ((atW ws 1).size : Int) := by omega
        have EC : Hid (C = false) := by show _ = _; rw [HC.out, hst, decide_eq_false h1]; rfl
        go_wp2_with fail
        go_meet
        exact ⟨by rw [EC.out], rfl⟩
  obtain ⟨rfl, rfl⟩ := hcut
  go_upto_if 28 with (fail)
  go_cut [6] from 14 (fun nx wx => nx = .int .i64 (ruleNx ws : Int) ∧ Ru5 w R wx (ruleNm5 ws) (ruleSt ws) (ruleRk ws) (.slice none 0 0) [] ⟨false, ⟨#[]⟩⟩ ∧ (ruleSt ws || decide ((atW ws 2).size = 2)) = true)
  case first =>
    obtain ⟨x0, x1, x2, x3, x4, x5⟩ := bcell6 HS.out.rul
    have lx := HS.out.lt
    have f0 := free_any HS.out.rul 0
    have f2 := free_any HS.out.rul 2
    cases C
    · cases hst : ruleSt ws
      · rw [hst] at x1
        have EN : Hid (ruleNx ws = 3 ∧ ruleNm5 ws = atW ws 1) := by show _ ∧ _; unfold ruleNx ruleNm5; rw [hst]; exact ⟨rfl, rfl⟩
        go_wp2_with fail
        refine (r5at_any ws B _ 2 (by omega) _ (HO.out.go HS.out.bel)).mono ?_
        rintro e w5 ⟨rfl, rfl⟩
        by_cases h2 : (atW ws 2).size = 2
        · have h2I : (((atW ws 2).size : Int) != 2) = false := by rw [h2]; rfl
          have h2J : ((atW ws 2).size : Int) = 2 := by omega
          have h2N : 1 ≤ (atW ws 2).size := by omega
          have ER : Hid (ruleRk ws = numW ((atW ws 2).extract 0 1)) := by show _ = _; unfold ruleRk; rw [hst]; rfl
          go_wp2_with fail
          refine (r5number_any ((atW ws 2).extract 0 1) (by rw [ByteArray.size_extract]; unfold maxLen; omega) _).mono ?_
          rintro e w5 ⟨rfl, rfl⟩
          go_wp2_with fail
          go_meet
          refine ⟨by rw [EN.out.1]; rfl, ?_, by rw [decide_eq_true h2, Bool.or_true]⟩
          have k := HS.out.rank (numW ((atW ws 2).extract 0 1))
          rw [EN.out.2, ER.out]
          exact k
        · have h2I : (((atW ws 2).size : Int) != 2) = true := bne_iff_ne.2 (by omega)
          have HN : Hid (¬ ruleK s ws = true) := by show ¬ _; unfold ruleK; rw [hst, decide_eq_false h2]; simp
          exact absurd HCASE.out (by rw [hst, decide_eq_false h2]; simp)
      · rw [hst] at x1
        have EN : Hid (ruleNx ws = 2 ∧ ruleRk ws = 0) := by show _ ∧ _; unfold ruleNx ruleRk; rw [hst]; exact ⟨rfl, rfl⟩
        have h1 : ¬ 0 < (atW ws 1).size := by
          have := HC.out
          rw [hst, Bool.true_and] at this
          exact of_decide_eq_false this.symm
        have ENM : Hid (ruleNm5 ws = atW ws 1) := by show _ = _; unfold ruleNm5 cutL; rw [hst, if_pos rfl, if_neg h1]
        go_wp2_with fail
        go_meet
        refine ⟨by rw [EN.out.1]; rfl, ?_, by rw [hst]; rfl⟩
        have k := HS.out
        rw [ENM.out, EN.out.2]
        exact k
    · have hC2 := HC.out.symm
      rw [Bool.and_eq_true, decide_eq_true_eq] at hC2
      obtain ⟨hst, h1⟩ := hC2
      have h1I : (0 : Int) < ((atW ws 1).size : Int) := by omega
      have EN : Hid (ruleNx ws = 2 ∧ ruleRk ws = 0) := by show _ ∧ _; unfold ruleNx ruleRk; rw [hst]; exact ⟨rfl, rfl⟩
      have ENM : Hid (ruleNm5 ws = (atW ws 1).extract 0 ((atW ws 1).size - 1)) := by show _ = _; unfold ruleNm5 cutL; rw [hst, if_pos rfl, if_pos h1]
      go_wp2_with fail
      go_meet
      refine ⟨by rw [EN.out.1]; rfl, ?_, by rw [hst]; rfl⟩
      have k := HS.out.name ((atW ws 1).extract 0 ((atW ws 1).size - 1))
      rw [ENM.out, EN.out.2]
      exact k
  case rest =>
    obtain ⟨rfl, hS5, hz5⟩ := hcut
    have HSX := hidIt hS5
    have HZ5 := hidIt hz5
    have hnx2 : ruleNx ws = 2 ∨ ruleNx ws = 3 := by unfold ruleNx; split <;> simp
    have HRN : Hid (ruleN ws = ws.length - 2 - ruleNx ws) := rfl
    clear hS5 hz5 HS
    have HNXE0 : Hid (ruleNx ws = ruleNx ws) := rfl
    generalize hNXE : ruleNx ws = NX at hnx2 HRN ⊢
    have HNXE := hidIt hNXE
    clear hNXE HNXE0
    have hNX0 : (0 : Int) ≤ (NX : Int) := by omega
    have hNX3 : (NX : Int) ≤ 3 := by omega
    go_wp2_with fail
    go_loopw [8] (fun i wr => ∃ (k : Nat) (bv : Value), i = .int .i64 ((NX + k : Nat) : Int) ∧ k ≤ ruleN ws ∧ Hid (((ruleBw ws).take k).all litOk = true) ∧ Hid (Ru5 w R wr (ruleNm5 ws) (ruleSt ws) (ruleRk ws) bv (((ruleBw ws).take k).map litW) ⟨false, ⟨#[]⟩⟩)) (fun i _ => ws.length - (intOf i).toNat)
    case atStart => exact ⟨0, .slice none 0 0, by go_num, Nat.zero_le _, by show _ = _; rfl, HSX.out⟩
    case round =>
      obtain ⟨k, bv, rfl, hkN, HAL, HSR⟩ := hrel
      by_cases hlt : k < ruleN ws
      · have hk1 : NX + k < ws.length - 2 := by have := HRN.out; omega
        have hkI : ((NX + k : Nat) : Int) < (ws.length : Int) - 2 := by omega
        have hkJ : ((NX + k : Nat) : Int) < (ws.length : Int) := by omega
        have hk0 : (0 : Int) ≤ ((NX + k : Nat) : Int) := by omega
        have hcx : wr.cell? ⟨g0, NX + k, none⟩ = some (.string (atW ws (NX + k))) := by
          obtain ⟨g, hge, hgl, hcl⟩ := HCW.out (NX + k) (by omega)
          injection hge with hge
          injection hge with hge
          subst hge
          have e : ws[NX + k] = atW ws (NX + k) := by unfold atW; rw [List.getD_eq_getElem?_getD, List.getElem?_eq_getElem (by omega)]; rfl
          rw [e] at hcl
          exact (Below.cell (p := ⟨g0, NX + k, none⟩) HSR.out.bel hgl).trans hcl
        have hgx : g0 < wr.heap.size := Nat.lt_of_lt_of_le hg0 HSR.out.bel.size
        have hzx : ((atW ws (NX + k)).size : Int) ≤ 100000 := by have := HAT.out (NX + k); omega
        have HBW : Hid (bodyW ws k = if k + 1 < ruleN ws then cutL (atW ws (NX + k)) else atW ws (NX + k)) := by rw [← HNXE.out]; rfl
        have HBSK := hidIt (HBS.out k)
        generalize hX : atW ws (NX + k) = X at *
        generalize hWW : bodyW ws k = WW at *
        have HWW := hidIt hWW
        clear hX hWW
        obtain ⟨C2, hC2⟩ : ∃ C2, C2 = (decide (k + 1 < ruleN ws) && decide (0 < X.size)) := ⟨_, rfl⟩
        have HC2 := hidIt hC2
        clear hC2
        go_upto_region 14 with (fail)
        clear hcx hgx
        go_cut [71] from 51 to 90 (fun c wx => c = .bool C2 ∧ wr = wx)
        case first =>
          by_cases hk3 : k + 1 < ruleN ws
          · have hk3I : ((NX + k : Nat) : Int) < (ws.length : Int) - 3 := by have := HRN.out; omega
            by_cases hX0 : 0 < X.size
            · have hX0I : (0 : Int) < (X.size : Int) := by omega
              have EC : Hid (C2 = true) := by show _ = _; rw [HC2.out, decide_eq_true hk3, decide_eq_true hX0]; rfl
              go_wp2_with fail
              go_meet
              exact ⟨by rw [EC.out], rfl⟩
            · have hX0I : ¬ (0 : Int) < (X.size : Int) := by omega
              have EC : Hid (C2 = false) := by show _ = _; rw [HC2.out, decide_eq_true hk3, decide_eq_false hX0]; rfl
              go_wp2_with fail
              go_meet
              exact ⟨by rw [EC.out], rfl⟩
          · have hk3I : ¬ ((NX + k : Nat) : Int) < (ws.length : Int) - 3 := by have := HRN.out; omega
            have EC : Hid (C2 = false) := by show _ = _; rw [HC2.out, decide_eq_false hk3]; rfl
            go_wp2_with fail
            go_meet
            exact ⟨by rw [EC.out], rfl⟩
        obtain ⟨rfl, rfl⟩ := hcut
        go_upto_if 71 with (fail)
        go_cut [9] from 51 to 90 (fun x wx => x = .string WW ∧ wr = wx)
        case first =>
          cases C2
          · have EW : Hid (WW = X) := by
              show _ = _
              rw [HBW.out]
              split
              · rename_i hk3
                have h2 := HC2.out
                rw [decide_eq_true hk3, Bool.true_and] at h2
                unfold cutL
                rw [if_neg (of_decide_eq_false h2.symm)]
              · rfl
            go_wp2_with fail
            go_meet
            exact ⟨by rw [EW.out], rfl⟩
          · have h2 := HC2.out.symm
            rw [Bool.and_eq_true, decide_eq_true_eq, decide_eq_true_eq] at h2
            obtain ⟨hk3, hX0⟩ := h2
            have hX0I : (0 : Int) < (X.size : Int) := by omega
            have EW : Hid (WW = X.extract 0 (X.size - 1)) := by show _ = _; rw [HBW.out, if_pos hk3]; unfold cutL; rw [if_pos hX0]
            go_wp2_with fail
            go_meet
            exact ⟨by rw [EW.out], rfl⟩
        case rest =>
          obtain ⟨rfl, rfl⟩ := hcut
          clear HBW hzx
          go_wp2_with fail
          refine (rParse_any WW _ (Nat.le_trans HBSK.out (by unfold maxLen; omega))).mono ?_
          rintro e w5 ⟨rfl, hb5⟩
          have hb6 := Below.trans hb5 (Below.mono (bgrow w5 (.cells #[.bool (parsedNeg WW), .string (parsedName WW)] 46)) hb5.size)
          have HK6 := hidIt (heap_alloc_new w5 (.cells #[.bool (parsedNeg WW), .string (parsedName WW)] 46))
          have HS6 := hidIt (HSR.out.more hb6)
          clear hb5 hb6 HSR
          cases ho : litOk WW
          · have hpe : parsedErr WW = 3 := by unfold parsedErr; rw [if_neg (by unfold litOk at ho; rw [ho]; decide)]
            have HN : Hid (¬ ruleK s ws = true) := by
              show ¬ _
              unfold ruleK
              rw [bw_bad ws k hlt (by rw [HWW.out]; exact ho)]
              simp
            exact absurd HCASE.out (by rw [bw_bad ws k hlt (by rw [HWW.out]; exact ho)]; simp)
          · have hpe : parsedErr WW = 0 := by unfold parsedErr; rw [if_pos (by unfold litOk at ho; exact ho)]
            rw [hpe]
            have HLO := hidIt ho
            clear ho hpe
            go_upto_region 19 with (fail)
            obtain ⟨p6, hp6⟩ : ∃ p, p = w5.heap.size := ⟨_, rfl⟩
            rw [← hp6] at HK6 ⊢
            generalize (w5.alloc (.cells #[.bool (parsedNeg WW), .string (parsedName WW)] 46)) = w6 at *
            clear hp6
            obtain ⟨k0, k1⟩ := bcell2r HK6.out
            have lk := lt_of_block HK6.out
            obtain ⟨x0, x1, x2, x3, x4, x5⟩ := bcell6 HS6.out.rul
            have lx := HS6.out.lt
            obtain ⟨ab, cb, rfl, -, -, -⟩ := HS6.out.own.form5
            have hgr7 := bgrow w6 (.cells #[.bool (parsedNeg WW), .string (parsedName WW)] 46)
            have HS7 := hidIt (HS6.out.more hgr7)
            have hyl : ((((ruleBw ws).take k).map litW).length : Int) ≤ 5000 ∧ (((ruleBw ws).take k).map litW).length ≤ 5000 := by
              rw [List.length_map, List.length_take]
              have := HRN.out
              omega
            obtain ⟨hyl1, hyl2⟩ := hyl
            generalize hYS : ((ruleBw ws).take k).map litW = ys at *
            have HYS := hidIt hYS
            clear hYS hgr7
            go_wp2_with (at_builtin; refine Hid.out ?_)
            refine hidIt ?_
            refine wpList_append_kb rfl _ _ elemLit rfl (R + 1) (.slice ab ys.length cb) ys.length (flatL ys) rfl HS7.out.own _ 1 rfl #[.bool (parsedNeg WW), .string (parsedName WW)] 46 (heap_alloc_new _ _) rfl (one_of (by rfl)) (by omega) (by have := HS7.out.lt; omega) ?_
            intro g8 c8 w8 hown8 hg8 hbl8
            have hR8 := (hg8.block R HS7.out.lt (fun e => by have := (HS7.out.own.own_block R e.symm).1; omega)).trans HS7.out.rul
            have hS8 := HS7.out.grown (x := ⟨parsedNeg WW, parsedName WW⟩) hg8 hown8
            have HS8 := hidIt hS8
            have f83 := free_any hR8 3
            have l8 := lt_of_block hR8
            obtain ⟨y0, y1, y2, y3, y4, y5⟩ := bcell6 hR8
            clear x0 x1 x2 x3 x4 x5 lx k0 k1 lk hown8 hg8 hbl8 hR8 hS8 HS6 HS7
            go_wp2_with fail
            go_roundw
            case rel =>
              refine ⟨k + 1, .slice (some ⟨g8, 0, none⟩) (ys.length + 1) c8, by go_num, hlt, ?_, ?_⟩
              · show _ = _
                rw [bw_take ws k hlt, List.all_append, HAL.out, HWW.out]
                simp [HLO.out]
              · have e : ((ruleBw ws).take (k + 1)).map litW = ys ++ [⟨parsedNeg WW, parsedName WW⟩] := by
                  rw [bw_take ws k hlt, List.map_append, HYS.out, HWW.out]
                  rfl
                rw [e]
                exact HS8.out
            case measure => simp [intOf]; omega
      · have hkE : k = ruleN ws := by omega
        subst hkE
        have hkI : ¬ ((NX + ruleN ws : Nat) : Int) < (ws.length : Int) - 2 := by have := HRN.out; omega
        rw [bw_all] at HAL HSR
        have hlast : (ws.length : Int) - 1 = ((ws.length - 1 : Nat) : Int) := by omega
        go_wp2_with fail
        try rw [hlast]
        refine (r5at_any ws B _ (ws.length - 1) (by omega) _ (HO.out.go HSR.out.bel)).mono ?_
        rintro e w5 ⟨rfl, rfl⟩
        have HLZ := hidIt (HAT.out (ws.length - 1))
        generalize hX : atW ws (ws.length - 1) = X at *
        have HX := hidIt hX
        clear hX
        go_wp2_with fail
        refine (rParse_any X _ (Nat.le_trans HLZ.out (by unfold maxLen; omega))).mono ?_
        rintro e w5 ⟨rfl, hb5⟩
        have hb6 := Below.trans hb5 (Below.mono (bgrow w5 (.cells #[.bool (parsedNeg X), .string (parsedName X)] 46)) hb5.size)
        have HK6 := hidIt (heap_alloc_new w5 (.cells #[.bool (parsedNeg X), .string (parsedName X)] 46))
        have HS6 := hidIt (HSR.out.more hb6)
        have HN12 : Hid ((parsedName X).size ≤ 12) := litW_size X
        clear hb5 hb6 HSR
        go_upto_region 21 with (fail)
        obtain ⟨p6, hp6⟩ : ∃ p, p = w5.heap.size := ⟨_, rfl⟩
        rw [← hp6] at HK6 ⊢
        generalize (w5.alloc (.cells #[.bool (parsedNeg X), .string (parsedName X)] 46)) = w6 at *
        clear hp6
        obtain ⟨k0, k1⟩ := bcell2r HK6.out
        have lk := lt_of_block HK6.out
        obtain ⟨x0, x1, x2, x3, x4, x5⟩ := bcell6 HS6.out.rul
        have lx := HS6.out.lt
        have f4 := free_any HS6.out.rul 4
        have f5 := free_any HS6.out.rul 5
        go_upto_region 22 with (fail)
        have HS7 := hidIt (HS6.out.head ⟨parsedNeg X, parsedName X⟩)
        clear x0 x1 x2 x3 x4 x5 lx f4 f5 k0 k1 lk HK6 HS6
        have HS7' : Hid (Ru5 w R ((w6.setCell ⟨R, 4, none⟩ (.bool (parsedNeg X))).setCell ⟨R, 5, none⟩ (.string (parsedName X))) (ruleNm5 ws) (ruleSt ws) (ruleRk ws) bv ((ruleBw ws).map litW) ⟨parsedNeg X, parsedName X⟩) := HS7.out
        clear HS7
        generalize ((w6.setCell ⟨R, 4, none⟩ (.bool (parsedNeg X))).setCell ⟨R, 5, none⟩ (.string (parsedName X))) = w7 at *
        have HS7 := HS7'
        clear HS7'
        have HRC : Hid (ruleC ws = ⟨ruleNm5 ws, ruleSt ws, ruleRk ws, (ruleBw ws).map litW, ⟨parsedNeg X, parsedName X⟩⟩) := by show _ = _; unfold ruleC; rw [HX.out]; rfl
        have HK2 : Hid (ruleK s ws = (litOk X && (vn (ruleNm5 ws) && (decide (0 ≤ ruleRk ws ∧ ruleRk ws ≤ 9) && ((ruleT (ruleC ws) (ruleRk ws).toNat).toList == s.toList))))) := by
          show _ = _
          unfold ruleK ruleK2
          rw [HZ5.out, HAL.out, HX.out]
          rfl
        have HNM : Hid ((ruleNm5 ws).size ≤ 100000) := by
          show _ ≤ _
          unfold ruleNm5
          split
          · exact Nat.le_trans (cutL_size _) (HAT.out 1)
          · exact HAT.out 1
        have HBLN : Hid (((ruleBw ws).map litW).length ≤ 5000 ∧ ∀ x ∈ (ruleBw ws).map litW, x.name.size ≤ 12) := by
          refine ⟨?_, fun x hx => ?_⟩
          · rw [List.length_map, ruleBw_len]
            have := HRN.out
            omega
          · obtain ⟨y, -, rfl⟩ := List.mem_map.1 hx
            exact litW_size y
        generalize hRKE : ruleK s ws = RK at HK2
        have HRKE := hidIt hRKE
        clear hRKE
        generalize (ruleBw ws).map litW = ys at *
        generalize hRC : ruleC ws = RC at HRC HK2
        have HRCE := hidIt hRC
        generalize ruleNm5 ws = NM at *
        generalize ruleRk ws = rk at *
        generalize ruleSt ws = st at *
        clear hRC
        go_cut [13, 121] from 14 (fun _ c wx => c = .bool (!RK) ∧ Ru5 w R wx NM st rk bv ys ⟨parsedNeg X, parsedName X⟩)
        case first =>
          obtain ⟨x0, x1, x2, x3, x4, x5⟩ := bcell6 HS7.out.rul
          have lx := HS7.out.lt
          cases ho : litOk X
          · have hpe : parsedErr X = 3 := by unfold parsedErr; rw [if_neg (by unfold litOk at ho; rw [ho]; decide)]
            have HN : Hid (RK = false) := by show _ = _; rw [HK2.out, ho]; rfl
            rw [hpe]
            clear ho hpe
            go_wp2_with fail
            go_meet
            exact ⟨by rw [HN.out]; rfl, HS7.out⟩
          have hpe : parsedErr X = 0 := by unfold parsedErr; rw [if_pos (by unfold litOk at ho; exact ho)]
          rw [hpe]
          have HLO := hidIt ho
          clear ho hpe
          go_wp2_with fail
          refine (rValidName_any NM _ (Nat.le_trans HNM.out (by unfold maxLen; omega))).mono ?_
          rintro e w8 ⟨rfl, rfl⟩
          cases hv : vn NM
          · have HN : Hid (RK = false) := by show _ = _; rw [HK2.out, hv, HLO.out]; rfl
            clear hv
            go_wp2_with fail
            go_meet
            exact ⟨by rw [HN.out]; rfl, HS7.out⟩
          have HV := hidIt hv
          clear hv
          go_wp2_with fail
          refine (r5rank_any _ _).mono ?_
          rintro e w8 ⟨rfl, rfl⟩
          by_cases hk : 0 ≤ rk ∧ rk ≤ 9
          · rw [decide_eq_true hk]
            have HK := hidIt hk
            clear hk
            obtain ⟨ab, cb, rfl, -, -, -⟩ := HS7.out.own.form5
            go_wp2_with fail
            refine (r5ruleLine_any ⟨NM, st, rk, ys, ⟨parsedNeg X, parsedName X⟩⟩ rk.toNat (by have := HK.out; omega) (by have := HK.out; show rk = _; omega) (vn_le12 HV.out) HN12.out HBLN.out.2 HBLN.out.1 ab cb _ HS7.out.own.body).mono ?_
            rintro e w8 ⟨rfl, hb8⟩
            have HS8 := hidIt (HS7.out.more hb8)
            have HTE : Hid (ruleT ⟨NM, st, rk, ys, ⟨parsedNeg X, parsedName X⟩⟩ rk.toNat = ruleT RC rk.toNat) := by show _ = _; rw [HRC.out]
            rw [HTE.out]
            clear hb8 x0 x1 x2 x3 x4 x5 lx HS7 HTE
            cases ht : ((ruleT RC rk.toNat).toList == s.toList)
            · have HN : Hid (RK = false) := by show _ = _; rw [HK2.out, ht, HV.out, HLO.out, decide_eq_true HK.out]; rfl
              go_wp2_with fail
              go_meet
              exact ⟨by rw [HN.out]; rfl, HS8.out⟩
            · have HY : Hid (RK = true) := by show _ = _; rw [HK2.out, ht, HV.out, HLO.out, decide_eq_true HK.out]; rfl
              go_wp2_with fail
              go_meet
              exact ⟨by rw [HY.out]; rfl, HS8.out⟩
          · rw [decide_eq_false hk]
            have HN : Hid (RK = false) := by show _ = _; rw [HK2.out, HV.out, HLO.out, decide_eq_false hk]; rfl
            clear hk
            go_wp2_with fail
            go_meet
            exact ⟨by rw [HN.out]; rfl, HS7.out⟩
        case rest =>
          obtain ⟨rfl, hS8⟩ := hcut
          have HS8 := hidIt hS8
          clear hS8 HS7
          clear HK2
          cases RK
          · have HN : Hid (¬ ruleK s ws = true) := by show ¬ _; rw [HRKE.out]; decide
            go_wp2_with (refine wpList_store_mid rfl 88 (.tmp 4) (.tmp 122) rfl w.heap.size 0 #[.int .i64 0, .bool false, .string ⟨#[]⟩, .int .i64 0, .int .i64 0, .string ⟨#[]⟩, .string ⟨#[]⟩, .bool false, .int .i64 0, .slice none 0 0, .bool false, .string ⟨#[]⟩, .string ⟨#[]⟩, .int .i64 0, .bool false, .string ⟨#[]⟩] rfl rfl (there_of5 (hidIt HS8.out.box).out rfl) (by kernel_rfl) (by simp [Value.oneCell']) ?_; refine Hid.out ?_)
            have HF2 : Hid ((wc.setCells w.heap.size 0 (#[.int .i64 0, .bool false, .string ⟨#[]⟩, .int .i64 0, .int .i64 0, .string ⟨#[]⟩, .string ⟨#[]⟩, .bool false, .int .i64 0, .slice none 0 0, .bool false, .string ⟨#[]⟩, .string ⟨#[]⟩, .int .i64 0, .bool false, .string ⟨#[]⟩] : Array Value).toList).heap[w.heap.size]? = some (.cells #[.int .i64 0, .bool false, .string ⟨#[]⟩, .int .i64 0, .int .i64 0, .string ⟨#[]⟩, .string ⟨#[]⟩, .bool false, .int .i64 0, .slice none 0 0, .bool false, .string ⟨#[]⟩, .string ⟨#[]⟩, .int .i64 0, .bool false, .string ⟨#[]⟩] 88 (0, 0))) := put16_heap (hidIt HS8.out.box).out (.int .i64 0) (.bool false) (.string ⟨#[]⟩) (.int .i64 0) (.int .i64 0) (.string ⟨#[]⟩) (.string ⟨#[]⟩) (.bool false) (.int .i64 0) (.slice none 0 0) (.bool false) (.string ⟨#[]⟩) (.string ⟨#[]⟩) (.int .i64 0) (.bool false) (.string ⟨#[]⟩)
            have HBF : Hid (Below w.heap.size w (wc.setCells w.heap.size 0 (#[.int .i64 0, .bool false, .string ⟨#[]⟩, .int .i64 0, .int .i64 0, .string ⟨#[]⟩, .string ⟨#[]⟩, .bool false, .int .i64 0, .slice none 0 0, .bool false, .string ⟨#[]⟩, .string ⟨#[]⟩, .int .i64 0, .bool false, .string ⟨#[]⟩] : Array Value).toList)) := put16_below (hidIt HS8.out.bel).out (Nat.le_refl _) (.int .i64 0) (.bool false) (.string ⟨#[]⟩) (.int .i64 0) (.int .i64 0) (.string ⟨#[]⟩) (.string ⟨#[]⟩) (.bool false) (.int .i64 0) (.slice none 0 0) (.bool false) (.string ⟨#[]⟩) (.string ⟨#[]⟩) (.int .i64 0) (.bool false) (.string ⟨#[]⟩)
            refine hidIt ?_
            generalize (wc.setCells w.heap.size 0 (#[.int .i64 0, .bool false, .string ⟨#[]⟩, .int .i64 0, .int .i64 0, .string ⟨#[]⟩, .string ⟨#[]⟩, .bool false, .int .i64 0, .slice none 0 0, .bool false, .string ⟨#[]⟩, .string ⟨#[]⟩, .int .i64 0, .bool false, .string ⟨#[]⟩] : Array Value).toList) = w9 at *
            obtain ⟨z0, z1, z2, z3, z4, z5, z6, z7, z8, z9, za, zb, zc, zd, ze, zf⟩ := bcell16 HF2.out
            have lz := lt_of_block HF2.out
            go_wp2_with fail
            refine bodyPost_ret (v := .agg #[.int .i64 0, .bool false, .string ⟨#[]⟩, .int .i64 0, .int .i64 0, .string ⟨#[]⟩, .string ⟨#[]⟩, .bool false, .int .i64 0, .slice none 0 0, .bool false, .string ⟨#[]⟩, .string ⟨#[]⟩, .int .i64 0, .bool false, .string ⟨#[]⟩]) (by simp [results, Tryz.results105, go_sem, z0, z1, z2, z3, z4, z5, z6, z7, z8, z9, za, zb, zc, zd, ze, zf, lz]) rfl ?_
            exact ⟨_, rfl, ⟨.slice none 0 0, by rw [if_neg HN.out]; rfl, fun e => absurd e HN.out⟩, HBF.out⟩
          · have HY : Hid (ruleK s ws = true) := HRKE.out
            obtain ⟨ab, cb, rfl, -, -, -⟩ := HS8.out.own.form5
            obtain ⟨x0, x1, x2, x3, x4, x5⟩ := bcell6 HS8.out.rul
            have lx := HS8.out.lt
            go_wp2_with (refine wpList_store_mid rfl 88 (.tmp 4) (.tmp 124) rfl w.heap.size 0 #[.int .i64 2, .bool false, .string ⟨#[]⟩, .int .i64 0, .int .i64 0, .string ⟨#[]⟩, .string NM, .bool st, .int .i64 rk, .slice ab ys.length cb, .bool (parsedNeg X), .string (parsedName X), .string ⟨#[]⟩, .int .i64 0, .bool false, .string ⟨#[]⟩] rfl rfl (there_of5 (hidIt HS8.out.box).out rfl) (by kernel_rfl) (by simp [Value.oneCell']) ?_; refine Hid.out ?_)
            have HF2 : Hid ((wc.setCells w.heap.size 0 (#[.int .i64 2, .bool false, .string ⟨#[]⟩, .int .i64 0, .int .i64 0, .string ⟨#[]⟩, .string NM, .bool st, .int .i64 rk, .slice ab ys.length cb, .bool (parsedNeg X), .string (parsedName X), .string ⟨#[]⟩, .int .i64 0, .bool false, .string ⟨#[]⟩] : Array Value).toList).heap[w.heap.size]? = some (.cells #[.int .i64 2, .bool false, .string ⟨#[]⟩, .int .i64 0, .int .i64 0, .string ⟨#[]⟩, .string NM, .bool st, .int .i64 rk, .slice ab ys.length cb, .bool (parsedNeg X), .string (parsedName X), .string ⟨#[]⟩, .int .i64 0, .bool false, .string ⟨#[]⟩] 88 (0, 0))) := put16_heap (hidIt HS8.out.box).out (.int .i64 2) (.bool false) (.string ⟨#[]⟩) (.int .i64 0) (.int .i64 0) (.string ⟨#[]⟩) (.string NM) (.bool st) (.int .i64 rk) (.slice ab ys.length cb) (.bool (parsedNeg X)) (.string (parsedName X)) (.string ⟨#[]⟩) (.int .i64 0) (.bool false) (.string ⟨#[]⟩)
            have HBF : Hid (Below w.heap.size w (wc.setCells w.heap.size 0 (#[.int .i64 2, .bool false, .string ⟨#[]⟩, .int .i64 0, .int .i64 0, .string ⟨#[]⟩, .string NM, .bool st, .int .i64 rk, .slice ab ys.length cb, .bool (parsedNeg X), .string (parsedName X), .string ⟨#[]⟩, .int .i64 0, .bool false, .string ⟨#[]⟩] : Array Value).toList)) := put16_below (hidIt HS8.out.bel).out (Nat.le_refl _) (.int .i64 2) (.bool false) (.string ⟨#[]⟩) (.int .i64 0) (.int .i64 0) (.string ⟨#[]⟩) (.string NM) (.bool st) (.int .i64 rk) (.slice ab ys.length cb) (.bool (parsedNeg X)) (.string (parsedName X)) (.string ⟨#[]⟩) (.int .i64 0) (.bool false) (.string ⟨#[]⟩)
            have HO9 : Hid (OwnL (wc.setCells w.heap.size 0 (#[.int .i64 2, .bool false, .string ⟨#[]⟩, .int .i64 0, .int .i64 0, .string ⟨#[]⟩, .string NM, .bool st, .int .i64 rk, .slice ab ys.length cb, .bool (parsedNeg X), .string (parsedName X), .string ⟨#[]⟩, .int .i64 0, .bool false, .string ⟨#[]⟩] : Array Value).toList) w.heap.size (.slice ab ys.length cb) (ruleC ws).body) := by
              show OwnL _ _ _ _
              rw [HRCE.out, HRC.out]
              exact owns_mono5 (owns_kept HS8.out.own fun g e => put16_other (.int .i64 2) (.bool false) (.string ⟨#[]⟩) (.int .i64 0) (.int .i64 0) (.string ⟨#[]⟩) (.string NM) (.bool st) (.int .i64 rk) (.slice ab ys.length cb) (.bool (parsedNeg X)) (.string (parsedName X)) (.string ⟨#[]⟩) (.int .i64 0) (.bool false) (.string ⟨#[]⟩) (by have := (HS8.out.own.own_block g e).1; have := HS8.out.gt; omega)) (by have := HS8.out.gt; omega)
            refine hidIt ?_
            generalize (wc.setCells w.heap.size 0 (#[.int .i64 2, .bool false, .string ⟨#[]⟩, .int .i64 0, .int .i64 0, .string ⟨#[]⟩, .string NM, .bool st, .int .i64 rk, .slice ab ys.length cb, .bool (parsedNeg X), .string (parsedName X), .string ⟨#[]⟩, .int .i64 0, .bool false, .string ⟨#[]⟩] : Array Value).toList) = w9 at *
            obtain ⟨z0, z1, z2, z3, z4, z5, z6, z7, z8, z9, za, zb, zc, zd, ze, zf⟩ := bcell16 HF2.out
            have lz := lt_of_block HF2.out
            go_wp2_with fail
            refine bodyPost_ret (v := .agg #[.int .i64 2, .bool false, .string ⟨#[]⟩, .int .i64 0, .int .i64 0, .string ⟨#[]⟩, .string NM, .bool st, .int .i64 rk, .slice ab ys.length cb, .bool (parsedNeg X), .string (parsedName X), .string ⟨#[]⟩, .int .i64 0, .bool false, .string ⟨#[]⟩]) (by simp [results, Tryz.results105, go_sem, z0, z1, z2, z3, z4, z5, z6, z7, z8, z9, za, zb, zc, zd, ze, zf, lz]) rfl ?_
            exact ⟨_, rfl, ⟨.slice ab ys.length cb, by rw [if_pos HY.out, HRCE.out, HRC.out]; rfl, fun _ => HO9.out⟩, HBF.out⟩
theorem r5ruleOf_res (s : ByteArray) (ws : List ByteArray) (B : Nat) (v : Value) (hws : ∀ x ∈ ws, x.size ≤ 100000) (hl : 0 < ws.length) (hl2 : ws.length ≤ 5000) (w : World) (h : OwnWs w B v ws) :
    Calls Tryz.prog 105 #[.string s, v] w fun e w' => ∃ v : Value, e = .returned v ∧ RuRes s ws w v w' ∧ Below w.heap.size w w' := by
  cases hc : ((ruleSt ws || decide ((atW ws 2).size = 2)) && (ruleBw ws).all litOk)
  · exact r5ruleOf_X s ws B v hws hl hl2 w h hc
  · exact r5ruleOf_Y s ws B v hws hl hl2 w h hc
theorem r5ruleOf_any (s : ByteArray) (ws : List ByteArray) (B : Nat) (v : Value) (hws : ∀ x ∈ ws, x.size ≤ 100000) (hl : 0 < ws.length) (hl2 : ws.length ≤ 5000) (w : World) (h : OwnWs w B v ws) :
    Calls Tryz.prog 105 #[.string s, v] w fun e w' => ∃ bv : Value, e = .returned (if ruleK s ws = true then lineV 2 noPm (ruleC ws) bv noPr else line0) ∧ (ruleK s ws = true → OwnL w' w.heap.size bv (ruleC ws).body) ∧ Below w.heap.size w w' :=
  (r5ruleOf_res s ws B v hws hl hl2 w h).mono fun e w' ⟨v', he, ⟨bv, hv, ho⟩, hb⟩ => ⟨bv, by rw [he, hv], ho, hb⟩
end Go.Proofs.YtfcoplplkbeljaaGreatDoor
