/- slices.Equal at premises and at promotions: whether two rows are equal. The program's Same at rule bases: whether two are equal. -/
import Derived.Test.YtiffcdhiejmbdaaGreatDoorZ1R5same
import Derived.Test.YtiffcdhiejmbdaaGreatDoorZ1C

namespace Go.Proofs.YtiffcdhiejmbdaaGreatDoor
set_option linter.unusedVariables false
set_option linter.unusedSimpArgs false
open Go Go.RowKit

set_option maxRecDepth 100000 in
set_option maxHeartbeats 4000000 in
theorem eqPms_any (xs ys : List Pm) (v u : Value) (w : World) (hv : PmsAt w v xs) (hu : PmsAt w u ys) :
    Calls Tryz.prog 76 #[v, u] w fun e w' => e = .returned (.bool (decide (xs = ys))) ∧ Below w.heap.size w w' := by
  obtain ⟨a, cap, rfl, hlen, hcap, hrow⟩ := RowIn.form hv
  obtain ⟨a2, cap2, rfl, hlen2, hcap2, hrow2⟩ := RowIn.form hu
  have HR := hidIt hrow
  have HR2 := hidIt hrow2
  have hl1 : xs.length ≤ 9223372036854775807 := by unfold maxLen at hcap; omega
  have hl2 : ys.length ≤ 9223372036854775807 := by unfold maxLen at hcap2; omega
  clear hrow hv hrow2 hu
  by_cases hL : xs.length = ys.length
  case neg =>
    have hne : (((xs.length : Nat) : Int) != ((ys.length : Nat) : Int)) = true := by rw [bne_iff_ne]; omega
    have HD : Hid (decide (xs = ys) = false) := decide_eq_false (fun h => hL (by rw [h]))
    clear hL
    go_enter Tryz.func76, Tryz.ntmps76
    go_wp2_with fail
    all_goals first | (go_ret; exact ⟨ret_bool HD.out.symm, Below.refl _ _⟩) | (exfalso; simp_all)
  case pos =>
  have hqq : (((xs.length : Nat) : Int) != ((ys.length : Nat) : Int)) = false := by rw [bne_eq_false_iff_eq]; omega
  have HL := hidIt hL
  clear hL
  go_enter Tryz.func76, Tryz.ntmps76
  go_wp2_with fail
  go_loopw [5, 13] (fun _ i wr => ∃ k : Nat, k ≤ xs.length ∧ i = .int .i64 k ∧ Hid (Below w.heap.size w wr) ∧ Hid (∀ j (hj : j < xs.length) (hj2 : j < ys.length), j < k → xs[j] = ys[j])) (fun _ i _ => xs.length - (intOf i).toNat)
  case atStart => exact ⟨0, Nat.zero_le _, rfl, Below.refl _ _, fun j hj hj2 h => absurd h (by omega)⟩
  case round =>
    obtain ⟨k, hk, rfl, HB, HF⟩ := hrel
    by_cases hlt : k < xs.length
    · have hkr := hlt
      have hkr2 : k < ys.length := by rw [← HL.out]; exact hlt
      obtain ⟨b, off, rfl, hbl, c0, c1, c2, c3, c4⟩ := HR.out k hkr
      obtain ⟨b2, off2, rfl, hbl2, e0, e1, e2, e3, e4⟩ := HR2.out k hkr2
      have hltI : (k : Int) < (xs.length : Int) := by omega
      have hltI2 : (k : Int) < (ys.length : Int) := by omega
      have hk0 : (0 : Int) ≤ (k : Int) := by omega
      have d0 := (HB.out.cell (p := ⟨b, off + k * 5, none⟩) hbl).trans c0
      have d1 := (HB.out.cell (p := ⟨b, off + k * 5 + 1, none⟩) hbl).trans c1
      have d2 := (HB.out.cell (p := ⟨b, off + k * 5 + 2, none⟩) hbl).trans c2
      have d3 := (HB.out.cell (p := ⟨b, off + k * 5 + 3, none⟩) hbl).trans c3
      have d4 := (HB.out.cell (p := ⟨b, off + k * 5 + 4, none⟩) hbl).trans c4
      have f0 := (HB.out.cell (p := ⟨b2, off2 + k * 5, none⟩) hbl2).trans e0
      have f1 := (HB.out.cell (p := ⟨b2, off2 + k * 5 + 1, none⟩) hbl2).trans e1
      have f2 := (HB.out.cell (p := ⟨b2, off2 + k * 5 + 2, none⟩) hbl2).trans e2
      have f3 := (HB.out.cell (p := ⟨b2, off2 + k * 5 + 3, none⟩) hbl2).trans e3
      have f4 := (HB.out.cell (p := ⟨b2, off2 + k * 5 + 4, none⟩) hbl2).trans e4
      have hm1 := Nat.lt_of_lt_of_le hbl HB.out.size
      have hm2 := Nat.lt_of_lt_of_le hbl2 HB.out.size
      clear c0 c1 c2 c3 c4 e0 e1 e2 e3 e4 hbl hbl2
      have hgd := fun (op : BinOp) (a b' : Operand) (w : World) => gdPm op a b' xs[k] ys[k] w
      have hq := fun (w : World) => eqFieldsPm xs[k] ys[k] w
      by_cases he : xs[k] = ys[k]
      · rw [eqPmB_iff.2 he] at hq
        have HE := hidIt he
        clear he
        go_wp2_with fail
        go_quiet (fail)
        go_wp2_with fail
        go_roundw
        case rel => exact ⟨k + 1, by omega, by go_num, ⟨HB.out.os, HB.out.tape, HB.out.output, HB.out.size, HB.out.block⟩, up_succ hkr hkr2 HE.out HF.out⟩
        case measure => simp [intOf]; omega
      · rw [show eqPmB xs[k] ys[k] = false from Bool.eq_false_iff.2 fun h => he (eqPmB_iff.1 h)] at hq
        have HE : Hid (xs = ys → False) := fun e => he (by simp only [e])
        clear he
        go_wp2_with fail
        go_quiet (fail)
        go_wp2_with fail
        go_ret
        exact ⟨ret_bool (decide_eq_false HE.out).symm, ⟨HB.out.os, HB.out.tape, HB.out.output, HB.out.size, HB.out.block⟩⟩
    · obtain rfl : k = xs.length := by omega
      go_wp2_with fail
      go_ret
      exact ⟨ret_bool (decide_eq_true (ext_up HL.out fun j h1 h2 h3 => HF.out j h1 h2 h3)).symm, HB.out⟩

set_option maxRecDepth 100000 in
set_option maxHeartbeats 4000000 in
theorem eqPrs_any (xs ys : List Pr) (v u : Value) (w : World) (hv : PrsAt w v xs) (hu : PrsAt w u ys) :
    Calls Tryz.prog 79 #[v, u] w fun e w' => e = .returned (.bool (decide (xs = ys))) ∧ Below w.heap.size w w' := by
  obtain ⟨a, cap, rfl, hlen, hcap, hrow⟩ := RowIn.form hv
  obtain ⟨a2, cap2, rfl, hlen2, hcap2, hrow2⟩ := RowIn.form hu
  have HR := hidIt hrow
  have HR2 := hidIt hrow2
  have hl1 : xs.length ≤ 9223372036854775807 := by unfold maxLen at hcap; omega
  have hl2 : ys.length ≤ 9223372036854775807 := by unfold maxLen at hcap2; omega
  clear hrow hv hrow2 hu
  by_cases hL : xs.length = ys.length
  case neg =>
    have hne : (((xs.length : Nat) : Int) != ((ys.length : Nat) : Int)) = true := by rw [bne_iff_ne]; omega
    have HD : Hid (decide (xs = ys) = false) := decide_eq_false (fun h => hL (by rw [h]))
    clear hL
    go_enter Tryz.func79, Tryz.ntmps79
    go_wp2_with fail
    all_goals first | (go_ret; exact ⟨ret_bool HD.out.symm, Below.refl _ _⟩) | (exfalso; simp_all)
  case pos =>
  have hqq : (((xs.length : Nat) : Int) != ((ys.length : Nat) : Int)) = false := by rw [bne_eq_false_iff_eq]; omega
  have HL := hidIt hL
  clear hL
  go_enter Tryz.func79, Tryz.ntmps79
  go_wp2_with fail
  go_loopw [5, 13] (fun _ i wr => ∃ k : Nat, k ≤ xs.length ∧ i = .int .i64 k ∧ Hid (Below w.heap.size w wr) ∧ Hid (∀ j (hj : j < xs.length) (hj2 : j < ys.length), j < k → xs[j] = ys[j])) (fun _ i _ => xs.length - (intOf i).toNat)
  case atStart => exact ⟨0, Nat.zero_le _, rfl, Below.refl _ _, fun j hj hj2 h => absurd h (by omega)⟩
  case round =>
    obtain ⟨k, hk, rfl, HB, HF⟩ := hrel
    by_cases hlt : k < xs.length
    · have hkr := hlt
      have hkr2 : k < ys.length := by rw [← HL.out]; exact hlt
      obtain ⟨b, off, rfl, hbl, c0, c1, c2, c3⟩ := HR.out k hkr
      obtain ⟨b2, off2, rfl, hbl2, e0, e1, e2, e3⟩ := HR2.out k hkr2
      have hltI : (k : Int) < (xs.length : Int) := by omega
      have hltI2 : (k : Int) < (ys.length : Int) := by omega
      have hk0 : (0 : Int) ≤ (k : Int) := by omega
      have d0 := (HB.out.cell (p := ⟨b, off + k * 4, none⟩) hbl).trans c0
      have d1 := (HB.out.cell (p := ⟨b, off + k * 4 + 1, none⟩) hbl).trans c1
      have d2 := (HB.out.cell (p := ⟨b, off + k * 4 + 2, none⟩) hbl).trans c2
      have d3 := (HB.out.cell (p := ⟨b, off + k * 4 + 3, none⟩) hbl).trans c3
      have f0 := (HB.out.cell (p := ⟨b2, off2 + k * 4, none⟩) hbl2).trans e0
      have f1 := (HB.out.cell (p := ⟨b2, off2 + k * 4 + 1, none⟩) hbl2).trans e1
      have f2 := (HB.out.cell (p := ⟨b2, off2 + k * 4 + 2, none⟩) hbl2).trans e2
      have f3 := (HB.out.cell (p := ⟨b2, off2 + k * 4 + 3, none⟩) hbl2).trans e3
      have hm1 := Nat.lt_of_lt_of_le hbl HB.out.size
      have hm2 := Nat.lt_of_lt_of_le hbl2 HB.out.size
      clear c0 c1 c2 c3 e0 e1 e2 e3 hbl hbl2
      have hgd := fun (op : BinOp) (a b' : Operand) (w : World) => gdPr op a b' xs[k] ys[k] w
      have hq := fun (w : World) => eqFieldsPr xs[k] ys[k] w
      by_cases he : xs[k] = ys[k]
      · rw [eqPrB_iff.2 he] at hq
        have HE := hidIt he
        clear he
        go_wp2_with fail
        go_quiet (fail)
        go_wp2_with fail
        go_roundw
        case rel => exact ⟨k + 1, by omega, by go_num, ⟨HB.out.os, HB.out.tape, HB.out.output, HB.out.size, HB.out.block⟩, up_succ hkr hkr2 HE.out HF.out⟩
        case measure => simp [intOf]; omega
      · rw [show eqPrB xs[k] ys[k] = false from Bool.eq_false_iff.2 fun h => he (eqPrB_iff.1 h)] at hq
        have HE : Hid (xs = ys → False) := fun e => he (by simp only [e])
        clear he
        go_wp2_with fail
        go_quiet (fail)
        go_wp2_with fail
        go_ret
        exact ⟨ret_bool (decide_eq_false HE.out).symm, ⟨HB.out.os, HB.out.tape, HB.out.output, HB.out.size, HB.out.block⟩⟩
    · obtain rfl : k = xs.length := by omega
      go_wp2_with fail
      go_ret
      exact ⟨ret_bool (decide_eq_true (ext_up HL.out fun j h1 h2 h3 => HF.out j h1 h2 h3)).symm, HB.out⟩
end Go.Proofs.YtiffcdhiejmbdaaGreatDoor

namespace Go.Proofs.YtiffcdhiejmbdaaGreatDoor
set_option linter.unusedVariables false
set_option linter.unusedSimpArgs false
open Go Go.RowKit

set_option maxRecDepth 100000 in
set_option maxHeartbeats 8000000 in
theorem sameRule_any (X Y : Ru) (a a' : Option Addr) (c c' : Nat) (w : World) (hv : BodyAt w (.slice a X.body.length c) X.body) (hu : BodyAt w (.slice a' Y.body.length c') Y.body) :
    Calls Tryz.prog 78 #[.agg #[.string X.name, .bool X.strict, .int .i64 X.rank, .slice a X.body.length c, .bool X.head.neg, .string X.head.name], .agg #[.string Y.name, .bool Y.strict, .int .i64 Y.rank, .slice a' Y.body.length c', .bool Y.head.neg, .string Y.head.name]] w fun e w' => e = .returned (.bool (decide (X = Y))) ∧ Below w.heap.size w w' := by
  obtain ⟨xn, xt, xr, xb, xhg, xhn⟩ := X
  obtain ⟨yn, yt, yr, yb, yhg, yhn⟩ := Y
  simp only at hv hu ⊢
  have hgr := bgrow2 w (.cells #[.string xn, .bool xt, .int .i64 xr, .slice a xb.length c, .bool xhg, .string xhn] 72) (.cells #[.string yn, .bool yt, .int .i64 yr, .slice a' yb.length c', .bool yhg, .string yhn] 72)
  have HG := hidIt hgr
  have HX := hidIt (hv.below hgr)
  have HY := hidIt (hu.below hgr)
  have hX := blk_kept2 (heap_alloc_new w (.cells #[.string xn, .bool xt, .int .i64 xr, .slice a xb.length c, .bool xhg, .string xhn] 72)) (bgrow _ (.cells #[.string yn, .bool yt, .int .i64 yr, .slice a' yb.length c', .bool yhg, .string yhn] 72))
  have hY := heap_alloc_new (w.alloc (.cells #[.string xn, .bool xt, .int .i64 xr, .slice a xb.length c, .bool xhg, .string xhn] 72)) (.cells #[.string yn, .bool yt, .int .i64 yr, .slice a' yb.length c', .bool yhg, .string yhn] 72)
  rw [size_alloc] at hY
  obtain ⟨z0, z1, z2, z3, z4, z5⟩ := bcell6 hX
  obtain ⟨u0, u1, u2, u3, u4, u5⟩ := bcell6 hY
  have lz := lt_of_block hX
  have lu := lt_of_block hY
  have gdh := fun (op : BinOp) (a b' : Operand) (w : World) => gdL op a b' xhg yhg xhn yhn w
  have hqh := fun (w : World) => eqFieldsL xhg yhg xhn yhn w
  clear hX hY hgr hv hu
  by_cases en : xn = yn
  · have f1 : (xn.toList == yn.toList) = true := by rw [en]; exact beq_self_eq_true _
    by_cases et : xt = yt
    · subst et
      by_cases er : xr = yr
      · subst er
        by_cases eh : (⟨xhg, xhn⟩ : Lt) = ⟨yhg, yhn⟩
        · rw [decide_eq_true eh] at hqh
          have HEQ : Hid (decide ((⟨xn, xt, xr, xb, ⟨xhg, xhn⟩⟩ : Ru) = ⟨yn, xt, xr, yb, ⟨yhg, yhn⟩⟩) = decide (xb = yb)) := by
            by_cases eb : xb = yb
            · rw [decide_eq_true eb]; exact decide_eq_true (by rw [en, eb, eh])
            · rw [decide_eq_false eb]; exact decide_eq_false fun e => eb (by injection e)
          clear en eh
          go_enter Tryz.func78, Tryz.ntmps78
          go_wp2_with fail
          refine (eqLits_any xb yb _ _ _ HX.out HY.out).mono ?_
          rintro e w5 ⟨rfl, hb5⟩
          have HB5 := hidIt (HG.out.trans (Below.mono hb5 HG.out.size))
          clear hb5
          generalize decide (xb = yb) = B at *
          go_wp2_with fail
          go_ret
          exact ⟨ret_bool HEQ.out.symm, HB5.out⟩
        · rw [decide_eq_false eh] at hqh
          have HEQ : Hid (decide ((⟨xn, xt, xr, xb, ⟨xhg, xhn⟩⟩ : Ru) = ⟨yn, xt, xr, yb, ⟨yhg, yhn⟩⟩) = false) := decide_eq_false fun e => eh (by injection e)
          clear eh en
          go_enter Tryz.func78, Tryz.ntmps78
          go_wp2_with fail
          go_ret
          exact ⟨ret_bool HEQ.out.symm, HG.out⟩
      · have f3 : (xr == yr) = false := beq_eq_false_iff_ne.2 er
        have HEQ : Hid (decide ((⟨xn, xt, xr, xb, ⟨xhg, xhn⟩⟩ : Ru) = ⟨yn, xt, yr, yb, ⟨yhg, yhn⟩⟩) = false) := decide_eq_false fun e => er (by injection e)
        clear er en
        go_enter Tryz.func78, Tryz.ntmps78
        go_wp2_with fail
        go_ret
        exact ⟨ret_bool HEQ.out.symm, HG.out⟩
    · have f2 : (xt == yt) = false := beq_eq_false_iff_ne.2 et
      have HEQ : Hid (decide ((⟨xn, xt, xr, xb, ⟨xhg, xhn⟩⟩ : Ru) = ⟨yn, yt, yr, yb, ⟨yhg, yhn⟩⟩) = false) := decide_eq_false fun e => et (by injection e)
      clear et en
      go_enter Tryz.func78, Tryz.ntmps78
      go_wp2_with fail
      go_ret
      exact ⟨ret_bool HEQ.out.symm, HG.out⟩
  · have f1 : (xn.toList == yn.toList) = false := Bool.eq_false_iff.2 fun h => en (bytesEq5.1 h)
    have HEQ : Hid (decide ((⟨xn, xt, xr, xb, ⟨xhg, xhn⟩⟩ : Ru) = ⟨yn, yt, yr, yb, ⟨yhg, yhn⟩⟩) = false) := decide_eq_false fun e => en (by injection e)
    clear en
    go_enter Tryz.func78, Tryz.ntmps78
    go_wp2_with fail
    go_ret
    exact ⟨ret_bool HEQ.out.symm, HG.out⟩

set_option maxRecDepth 100000 in
set_option maxHeartbeats 8000000 in
theorem eqRus_any (xs ys : List Ru) (v u : Value) (w : World) (hv : RusAt w v xs) (hu : RusAt w u ys) :
    Calls Tryz.prog 77 #[v, u, .func (.func 78) #[] #[]] w fun e w' => e = .returned (.bool (decide (xs = ys))) ∧ Below w.heap.size w w' := by
  obtain ⟨a, cap, rfl, hlen, hcap, hrow⟩ := RowIn.form hv
  obtain ⟨a2, cap2, rfl, hlen2, hcap2, hrow2⟩ := RowIn.form hu
  have HR := hidIt hrow
  have HR2 := hidIt hrow2
  have hl1 : xs.length ≤ 9223372036854775807 := by unfold maxLen at hcap; omega
  have hl2 : ys.length ≤ 9223372036854775807 := by unfold maxLen at hcap2; omega
  clear hrow hv hrow2 hu
  by_cases hL : xs.length = ys.length
  case neg =>
    have hne : (((xs.length : Nat) : Int) != ((ys.length : Nat) : Int)) = true := by rw [bne_iff_ne]; omega
    have HD : Hid (decide (xs = ys) = false) := decide_eq_false (fun h => hL (by rw [h]))
    clear hL
    go_enter Tryz.func77, Tryz.ntmps77
    go_wp2_with fail
    all_goals first | (go_ret; exact ⟨ret_bool HD.out.symm, Below.refl _ _⟩) | (exfalso; simp_all)
  case pos =>
  have hqq : (((xs.length : Nat) : Int) != ((ys.length : Nat) : Int)) = false := by rw [bne_eq_false_iff_eq]; omega
  have HL := hidIt hL
  clear hL
  go_enter Tryz.func77, Tryz.ntmps77
  go_wp2_with fail
  go_loopw [17] (fun i wr => ∃ k : Nat, k ≤ xs.length ∧ i = .int .i64 k ∧ Hid (Below w.heap.size w wr) ∧ Hid (∀ j (hj : j < xs.length) (hj2 : j < ys.length), j < k → xs[j] = ys[j])) (fun i _ => xs.length - (intOf i).toNat)
  case atStart => exact ⟨0, Nat.zero_le _, rfl, Below.refl _ _, fun j hj hj2 h => absurd h (by omega)⟩
  case round =>
    obtain ⟨k, hk, rfl, HB, HF⟩ := hrel
    by_cases hlt : k < xs.length
    · have hkr := hlt
      have hkr2 : k < ys.length := by rw [← HL.out]; exact hlt
      obtain ⟨b, off, rfl, hbl, bv, c0, c1, c2, c3, c4, c5, hbd⟩ := HR.out k hkr
      obtain ⟨b2, off2, rfl, hbl2, bv2, e0, e1, e2, e3, e4, e5, hbd2⟩ := HR2.out k hkr2
      obtain ⟨av, cv, rfl, -, -, -⟩ := hbd.form
      obtain ⟨av2, cv2, rfl, -, -, -⟩ := hbd2.form
      have hltI : (k : Int) < (xs.length : Int) := by omega
      have hltI2 : (k : Int) < (ys.length : Int) := by omega
      have hk0 : (0 : Int) ≤ (k : Int) := by omega
      have d0 := (HB.out.cell (p := ⟨b, off + k * 6, none⟩) hbl).trans c0
      have d1 := (HB.out.cell (p := ⟨b, off + k * 6 + 1, none⟩) hbl).trans c1
      have d2 := (HB.out.cell (p := ⟨b, off + k * 6 + 2, none⟩) hbl).trans c2
      have d3 := (HB.out.cell (p := ⟨b, off + k * 6 + 3, none⟩) hbl).trans c3
      have d4 := (HB.out.cell (p := ⟨b, off + k * 6 + 4, none⟩) hbl).trans c4
      have d5 := (HB.out.cell (p := ⟨b, off + k * 6 + 5, none⟩) hbl).trans c5
      have hm1 := Nat.lt_of_lt_of_le hbl HB.out.size
      have hm2 := Nat.lt_of_lt_of_le hbl2 HB.out.size
      have HD1 := hidIt (hbd.below HB.out)
      have HD2 := hidIt (hbd2.below HB.out)
      have g0 := (HB.out.cell (p := ⟨b2, off2 + k * 6, none⟩) hbl2).trans e0
      have g1 := (HB.out.cell (p := ⟨b2, off2 + k * 6 + 1, none⟩) hbl2).trans e1
      have g2 := (HB.out.cell (p := ⟨b2, off2 + k * 6 + 2, none⟩) hbl2).trans e2
      have g3 := (HB.out.cell (p := ⟨b2, off2 + k * 6 + 3, none⟩) hbl2).trans e3
      have g4 := (HB.out.cell (p := ⟨b2, off2 + k * 6 + 4, none⟩) hbl2).trans e4
      have g5 := (HB.out.cell (p := ⟨b2, off2 + k * 6 + 5, none⟩) hbl2).trans e5
      clear c0 c1 c2 c3 c4 c5 e0 e1 e2 e3 e4 e5 hbl hbl2 hbd hbd2
      have HNE : Hid (¬ xs[k] = ys[k] → xs = ys → False) := fun h e => h (by simp only [e])
      have HEE : Hid (xs[k] = ys[k] → xs[k] = ys[k]) := fun h => h
      obtain ⟨X, hXE⟩ : ∃ x, xs[k] = x := ⟨_, rfl⟩
      obtain ⟨Y, hYE⟩ : ∃ x, ys[k] = x := ⟨_, rfl⟩
      simp only [hXE] at d0 d1 d2 d3 d4 d5 HD1 HNE HEE
      simp only [hYE] at g0 g1 g2 g3 g4 g5 HD2 HNE HEE
      have HXE := hidIt hXE
      have HYE := hidIt hYE
      clear hXE hYE
      have hgr := bgrow2 wr (.cells #[.string X.name, .bool X.strict, .int .i64 X.rank, .slice av X.body.length cv, .bool X.head.neg, .string X.head.name] 72) (.cells #[.string Y.name, .bool Y.strict, .int .i64 Y.rank, .slice av2 Y.body.length cv2, .bool Y.head.neg, .string Y.head.name] 72)
      have HBr := hidIt (HB.out.trans (Below.mono hgr HB.out.size))
      have HD3 := hidIt (HD1.out.below hgr)
      have HD4 := hidIt (HD2.out.below hgr)
      clear hgr
      go_wp2_with fail
      refine (sameRule_any X Y _ _ _ _ _ HD3.out HD4.out).mono ?_
      rintro e w5 ⟨rfl, hb5⟩
      have HB5 := hidIt (HBr.out.trans (Below.mono hb5 HBr.out.size))
      clear hb5
      by_cases he : X = Y
      · rw [decide_eq_true he]
        have HE : Hid (xs[k] = ys[k]) := by show _ = _; rw [HXE.out, HYE.out, he]
        clear he
        go_wp2_with fail
        go_roundw
        case rel => exact ⟨k + 1, by omega, by go_num, HB5.out, up_succ hkr hkr2 HE.out HF.out⟩
        case measure => simp [intOf]; omega
      · rw [decide_eq_false he]
        have HE : Hid (xs = ys → False) := HNE.out he
        clear he
        go_wp2_with fail
        go_ret
        exact ⟨ret_bool (decide_eq_false HE.out).symm, HB5.out⟩
    · obtain rfl : k = xs.length := by omega
      go_wp2_with fail
      go_ret
      exact ⟨ret_bool (decide_eq_true (ext_up HL.out fun j h1 h2 h3 => HF.out j h1 h2 h3)).symm, HB.out⟩

set_option maxRecDepth 100000 in
set_option maxHeartbeats 8000000 in
theorem bsame_any (b c : Bs) (v u : Value) (w : World) (hv : BaseAt w v b) (hu : BaseAt w u c) :
    Calls Tryz.prog 28 #[v, u] w fun e w' => e = .returned (.bool (decide (b = c))) ∧ Below w.heap.size w w' := by
  obtain ⟨a1, a2, a3, c1, c2, c3, rfl, -, -, -, -, -, -, hp, hr, hq⟩ := hv.form
  obtain ⟨d1, d2, d3, e1, e2, e3, rfl, -, -, -, -, -, -, hp', hr', hq'⟩ := hu.form
  have hgr := bgrow2 w (.cells #[.slice a1 b.prems.length c1, .slice a2 b.rules.length c2, .slice a3 b.proms.length c3] 26) (.cells #[.slice d1 c.prems.length e1, .slice d2 c.rules.length e2, .slice d3 c.proms.length e3] 26)
  have HP := hidIt (hp.below hgr)
  have HR := hidIt (hr.below hgr)
  have HQ := hidIt (hq.below hgr)
  have HP' := hidIt (hp'.below hgr)
  have HR' := hidIt (hr'.below hgr)
  have HQ' := hidIt (hq'.below hgr)
  have HG := hidIt hgr
  have HK := hidIt (blk_kept2 (heap_alloc_new w (.cells #[.slice a1 b.prems.length c1, .slice a2 b.rules.length c2, .slice a3 b.proms.length c3] 26)) (bgrow _ (.cells #[.slice d1 c.prems.length e1, .slice d2 c.rules.length e2, .slice d3 c.proms.length e3] 26)))
  have HL := hidIt (heap_alloc_new (w.alloc (.cells #[.slice a1 b.prems.length c1, .slice a2 b.rules.length c2, .slice a3 b.proms.length c3] 26)) (.cells #[.slice d1 c.prems.length e1, .slice d2 c.rules.length e2, .slice d3 c.proms.length e3] 26))
  rw [size_alloc] at HL
  obtain ⟨k0, k1, k2⟩ := bcell3 HK.out
  obtain ⟨l0, l1, l2⟩ := bcell3 HL.out
  have lk := lt_of_block HK.out
  have ll := lt_of_block HL.out
  clear hv hu hp hr hq hp' hr' hq' hgr
  go_enter Tryz.func28, Tryz.ntmps28
  go_wp2_with fail
  refine (eqPms_any b.prems c.prems _ _ _ HP.out HP'.out).mono ?_
  rintro e w1 ⟨rfl, hb1⟩
  have HB1 := hidIt (HG.out.trans (Below.mono hb1 HG.out.size))
  have HR1 := hidIt (HR.out.below hb1)
  have HR1' := hidIt (HR'.out.below hb1)
  have HQ1 := hidIt (HQ.out.below hb1)
  have HQ1' := hidIt (HQ'.out.below hb1)
  have hK1 := blk_kept2 HK.out hb1
  have hL1 := blk_kept2 HL.out hb1
  have HK1 := hidIt hK1
  have HL1 := hidIt hL1
  clear k0 k1 k2 l0 l1 l2 lk ll hb1 HP HR HQ HP' HR' HQ' HK HL HG
  obtain ⟨k0, k1, k2⟩ := bcell3 hK1
  obtain ⟨l0, l1, l2⟩ := bcell3 hL1
  have lk := lt_of_block hK1
  have ll := lt_of_block hL1
  clear hK1 hL1
  by_cases hep : b.prems = c.prems
  case neg =>
    rw [decide_eq_false hep]
    have HE : Hid (decide (b = c) = false) := decide_eq_false fun e => hep (by rw [e])
    clear hep
    go_wp2_with fail
    go_ret
    exact ⟨ret_bool HE.out.symm, HB1.out⟩
  case pos =>
  rw [decide_eq_true hep]
  have HEP := hidIt hep
  clear hep
  go_wp2_with fail
  refine (eqRus_any b.rules c.rules _ _ _ HR1.out HR1'.out).mono ?_
  rintro e w2 ⟨rfl, hb2⟩
  have HB2 := hidIt (HB1.out.trans (Below.mono hb2 HB1.out.size))
  have HQ2 := hidIt (HQ1.out.below hb2)
  have HQ2' := hidIt (HQ1'.out.below hb2)
  have hK2 := blk_kept2 HK1.out hb2
  have hL2 := blk_kept2 HL1.out hb2
  clear k0 k1 k2 l0 l1 l2 lk ll hb2 HR1 HR1' HQ1 HQ1' HK1 HL1 HB1
  obtain ⟨k0, k1, k2⟩ := bcell3 hK2
  obtain ⟨l0, l1, l2⟩ := bcell3 hL2
  have lk := lt_of_block hK2
  have ll := lt_of_block hL2
  clear hK2 hL2
  by_cases her : b.rules = c.rules
  case neg =>
    rw [decide_eq_false her]
    have HE : Hid (decide (b = c) = false) := decide_eq_false fun e => her (by rw [e])
    clear her
    go_wp2_with fail
    go_ret
    exact ⟨ret_bool HE.out.symm, HB2.out⟩
  case pos =>
  rw [decide_eq_true her]
  have HER := hidIt her
  clear her
  go_wp2_with fail
  refine (eqPrs_any b.proms c.proms _ _ _ HQ2.out HQ2'.out).mono ?_
  rintro e w3 ⟨rfl, hb3⟩
  have HB3 := hidIt (HB2.out.trans (Below.mono hb3 HB2.out.size))
  have HE : Hid (decide (b = c) = decide (b.proms = c.proms)) := by
    by_cases h : b.proms = c.proms
    · rw [decide_eq_true h]; exact decide_eq_true (ext_bs HEP.out HER.out h)
    · rw [decide_eq_false h]; exact decide_eq_false fun e => h (by rw [e])
  clear hb3 k0 k1 k2 l0 l1 l2 lk ll
  generalize decide (b.proms = c.proms) = D at *
  go_wp2_with fail
  go_ret
  exact ⟨ret_bool HE.out.symm, HB3.out⟩
end Go.Proofs.YtiffcdhiejmbdaaGreatDoor
