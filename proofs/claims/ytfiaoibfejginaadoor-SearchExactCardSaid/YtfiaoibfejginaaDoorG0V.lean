/- The program's Validate; valid and the reference's Valid: the graph itself, or the one without nodes. -/
import Derived.Test.YtfiaoibfejginaaDoorG0C
import Derived.Test.YtfiaoibfejginaaDoorG0Sort
namespace Go.Proofs.YtfiaoibfejginaaDoor
set_option linter.unusedVariables false
set_option linter.unusedSimpArgs false
open Go Go.RowKit Go.Sort

theorem geP_cmp (y x : Int × Int) : geP y x = decide (0 ≤ cmpP y x) := by
  unfold geP cmpP
  rw [decide_eq_decide]
  by_cases h1 : y.1 < x.1
  · rw [if_pos h1]; omega
  · rw [if_neg h1]
    by_cases h2 : x.1 < y.1
    · rw [if_pos h2]; omega
    · rw [if_neg h2]
      by_cases h3 : y.2 < x.2
      · rw [if_pos h3]; omega
      · rw [if_neg h3]
        by_cases h4 : x.2 < y.2
        · rw [if_pos h4]; omega
        · rw [if_neg h4]; omega

set_option maxRecDepth 100000 in
set_option maxHeartbeats 4000000 in
theorem gValidate_any (n : Int) (v : Value) (xs : List (Int × Int)) (w : World) (h : PairsAt w v xs) (hl : xs.length ≤ 1000000) :
    Calls Tryd.prog 32 #[.agg #[.int .i64 n, v]] w fun e w' => e = .returned (.int .i64 (valE n xs)) ∧ Below w.heap.size w w' := by
  obtain ⟨a, c, rfl, hc⟩ := h.pc
  have HX := hidIt (heap_alloc_new w (.cells #[.int .i64 n, .slice a xs.length c] 24))
  have hB := bgrow w (.cells #[.int .i64 n, .slice a xs.length c] 24)
  have HC := hidIt (hc.go hB)
  have HB := hidIt hB
  have HV : Hid (valE n xs = if n < 0 ∨ 40 < n then 1 else valFrom n none xs) := (rfl : _ = _)
  generalize valE n xs = V at *
  clear hc h hB
  obtain ⟨P, hP⟩ : ∃ P, P = w.heap.size := ⟨_, rfl⟩
  have HP := hidIt hP
  go_enter Tryd.func32, Tryd.ntmps32
  go_upto_region 1 with (fail)
  generalize w.alloc (.cells #[.int .i64 n, .slice a xs.length c] 24) = w1 at *
  rw [← hP] at HX ⊢
  clear hP
  obtain ⟨x0, x1⟩ := And.intro (cell_two0 HX.out) (cell_two1 HX.out)
  have lx := lt_of_block HX.out
  by_cases hn0 : n < 0
  · have HE : Hid (V = 1) := by show _ = _; rw [HV.out, if_pos (.inl hn0)]
    go_wp2_with fail
    go_ret
    exact ⟨ret_int HE.out.symm, HB.out⟩
  by_cases hn1 : 40 < n
  · have HE : Hid (V = 1) := by show _ = _; rw [HV.out, if_pos (.inr hn1)]
    go_wp2_with fail
    go_ret
    exact ⟨ret_int HE.out.symm, HB.out⟩
  have HV2 : Hid (V = valFrom n (prevAt xs 0) (xs.drop 0)) := by show _ = _; rw [HV.out, if_neg (by omega)]; rfl
  clear HV
  obtain ⟨M, hM⟩ : ∃ M, M = xs.length := ⟨_, rfl⟩
  have HM := hidIt hM
  rw [← hM] at hl HX x1 ⊢
  clear hM
  go_wp2_with fail
  go_loopw [3, 4, 16] (fun _ _ i wr => ∃ k : Nat, k ≤ M ∧ i = .int .i64 k ∧ Hid (Below w1.heap.size w1 wr) ∧ Hid (V = valFrom n (prevAt xs k) (xs.drop k))) (fun _ _ i _ => M - (intOf i).toNat)
  case atStart => exact ⟨0, Nat.zero_le _, (by first | rfl | trivial), Below.refl _ _, HV2.out⟩
  case round =>
    clear HV2
    obtain ⟨k, hk, rfl, HBr, HV⟩ := hrel
    have hkI0 : (0 : Int) ≤ (k : Int) := by omega
    have HXr := hidIt (blk_kept2 HX.out HBr.out)
    have x0r := cell_two0 HXr.out
    have x1r := cell_two1 HXr.out
    have lxr := lt_of_block HXr.out
    clear x0 x1 lx
    by_cases hlt : k < M
    · have hkI : (k : Int) < (M : Int) := by omega
      have HLT : Hid (k < xs.length) := by show k < _; rw [← HM.out]; exact hlt
      obtain ⟨b, off, rfl, hb, hcs⟩ := (HC.out.go HBr.out).at_ HLT.out
      have HCS := hidIt hcs
      obtain ⟨p0, p1⟩ := hcs k HLT.out
      obtain ⟨x, hx⟩ : ∃ x, x = xs[k]'HLT.out := ⟨_, rfl⟩
      rw [← hx] at p0 p1
      have EX := hidIt hx
      clear hx hcs
      obtain ⟨gx, sx⟩ := x
      simp only at p0 p1
      have hg2 := bgrow wr (.cells #[.int .i64 gx, .int .i64 sx] 45)
      have HQ := hidIt (heap_alloc_new wr (.cells #[.int .i64 gx, .int .i64 sx] 45))
      have HX2 := hidIt (blk_kept2 HXr.out hg2)
      have HB2 := hidIt (HBr.out.trans (Below.mono hg2 HBr.out.size))
      have HCS2 : Hid (∀ i (h : i < xs.length), (wr.alloc (.cells #[.int .i64 gx, .int .i64 sx] 45)).cell? ⟨b, off + i * 2, none⟩ = some (.int .i64 xs[i].1) ∧ (wr.alloc (.cells #[.int .i64 gx, .int .i64 sx] 45)).cell? ⟨b, off + i * 2 + 1, none⟩ = some (.int .i64 xs[i].2)) := fun i hi => ⟨(Below.cell (p := ⟨b, off + i * 2, none⟩) hg2 hb).trans (HCS.out i hi).1, (Below.cell (p := ⟨b, off + i * 2 + 1, none⟩) hg2 hb).trans (HCS.out i hi).2⟩
      have hb2 := Nat.lt_of_lt_of_le hb hg2.size
      clear hg2 HCS
      go_upto_region 6 with (fail)
      generalize wr.alloc (.cells #[.int .i64 gx, .int .i64 sx] 45) = w2 at *
      clear x0r x1r lxr p0 p1 hb
      generalize wr.heap.size = Q at *
      obtain ⟨y0, y1⟩ := And.intro (cell_two0 HQ.out) (cell_two1 HQ.out)
      have ly := lt_of_block HQ.out
      obtain ⟨x0, x1⟩ := And.intro (cell_two0 HX2.out) (cell_two1 HX2.out)
      have lx := lt_of_block HX2.out
      cases hix1 : ixB gx n
      · have HE : Hid (V = 1) := by
          have hxf : (ixB (xs[k]'HLT.out).1 n && ixB (xs[k]'HLT.out).2 n) = false := by rw [← EX.out]; simp only [hix1]; rfl
          show _ = _
          rw [HV.out]
          by_cases hk0 : k = 0
          · subst hk0
            rw [val_step0 HLT.out, if_pos hxf]
          · rw [val_step (by omega) HLT.out, if_pos hxf]
        have HBF := hidIt (HB.out.trans (Below.mono HB2.out HB.out.size))
        have HI1 := hidIt hix1
        clear hix1
        go_wp2_with fail
        refine (gisNode_any n gx _ ⟨_, _, _, rfl⟩ _).mono ?_
        rw [HI1.out]
        rintro e w3 ⟨rfl, hb3⟩
        have HBE := hidIt (HBF.out.trans (Below.mono hb3 HBF.out.size))
        clear hb3
        go_wp2_with fail
        go_ret
        exact ⟨ret_int HE.out.symm, HBE.out⟩
      have HI1 := hidIt hix1
      clear hix1
      go_wp2_with fail
      refine (gisNode_any n gx _ ⟨_, _, _, rfl⟩ _).mono ?_
      rw [HI1.out]
      rintro e w3 ⟨rfl, hb3⟩
      have HB3 := hidIt (HB2.out.trans (Below.mono hb3 HB2.out.size))
      have HQ3 := hidIt (blk_kept2 HQ.out hb3)
      have HX3 := hidIt (blk_kept2 HX2.out hb3)
      have HCS3 : Hid (∀ i (h : i < xs.length), w3.cell? ⟨b, off + i * 2, none⟩ = some (.int .i64 xs[i].1) ∧ w3.cell? ⟨b, off + i * 2 + 1, none⟩ = some (.int .i64 xs[i].2)) := fun i hi => ⟨(Below.cell (p := ⟨b, off + i * 2, none⟩) hb3 hb2).trans (HCS2.out i hi).1, (Below.cell (p := ⟨b, off + i * 2 + 1, none⟩) hb3 hb2).trans (HCS2.out i hi).2⟩
      have hb2' := Nat.lt_of_lt_of_le hb2 hb3.size
      clear hb3 HB2 HQ HX2 HCS2 y0 y1 ly x0 x1 lx hb2
      obtain ⟨y0, y1⟩ := And.intro (cell_two0 HQ3.out) (cell_two1 HQ3.out)
      have ly := lt_of_block HQ3.out
      obtain ⟨x0, x1⟩ := And.intro (cell_two0 HX3.out) (cell_two1 HX3.out)
      have lx := lt_of_block HX3.out
      cases hix2 : ixB sx n
      · have HE : Hid (V = 1) := by
          have hxf : (ixB (xs[k]'HLT.out).1 n && ixB (xs[k]'HLT.out).2 n) = false := by rw [← EX.out]; simp only [hix2, Bool.and_false]
          show _ = _
          rw [HV.out]
          by_cases hk0 : k = 0
          · subst hk0
            rw [val_step0 HLT.out, if_pos hxf]
          · rw [val_step (by omega) HLT.out, if_pos hxf]
        have HBF := hidIt (HB.out.trans (Below.mono HB3.out HB.out.size))
        have HI2 := hidIt hix2
        clear hix2
        go_wp2_with fail
        refine (gisNode_any n sx _ ⟨_, _, _, rfl⟩ _).mono ?_
        rw [HI2.out]
        rintro e w4 ⟨rfl, hb4⟩
        have HBE := hidIt (HBF.out.trans (Below.mono hb4 HBF.out.size))
        clear hb4
        go_wp2_with fail
        go_ret
        exact ⟨ret_int HE.out.symm, HBE.out⟩
      have HI2 := hidIt hix2
      clear hix2
      have HIX : Hid ((ixB (xs[k]'HLT.out).1 n && ixB (xs[k]'HLT.out).2 n) ≠ false) := by show _ ≠ _; rw [← EX.out]; simp only [HI1.out, HI2.out]; decide
      go_wp2_with fail
      refine (gisNode_any n sx _ ⟨_, _, _, rfl⟩ _).mono ?_
      rw [HI2.out]
      rintro e w4 ⟨rfl, hb4⟩
      have HB4 := hidIt (HB3.out.trans (Below.mono hb4 HB3.out.size))
      have HQ4 := hidIt (blk_kept2 HQ3.out hb4)
      have HX4 := hidIt (blk_kept2 HX3.out hb4)
      have HCS4 : Hid (∀ i (h : i < xs.length), w4.cell? ⟨b, off + i * 2, none⟩ = some (.int .i64 xs[i].1) ∧ w4.cell? ⟨b, off + i * 2 + 1, none⟩ = some (.int .i64 xs[i].2)) := fun i hi => ⟨(Below.cell (p := ⟨b, off + i * 2, none⟩) hb4 hb2').trans (HCS3.out i hi).1, (Below.cell (p := ⟨b, off + i * 2 + 1, none⟩) hb4 hb2').trans (HCS3.out i hi).2⟩
      have lb := Nat.lt_of_lt_of_le hb2' hb4.size
      clear hb4 HB3 HQ3 HX3 HCS3 y0 y1 ly x0 x1 lx hb2'
      obtain ⟨y0, y1⟩ := And.intro (cell_two0 HQ4.out) (cell_two1 HQ4.out)
      have ly := lt_of_block HQ4.out
      obtain ⟨x0, x1⟩ := And.intro (cell_two0 HX4.out) (cell_two1 HX4.out)
      have lx := lt_of_block HX4.out
      have X0 := fun y => Ext.cell x0 y
      have X1 := fun y => Ext.cell x1 y
      have Y0 := fun y => Ext.cell y0 y
      have Y1 := fun y => Ext.cell y1 y
      have LX := fun y : In (Ext w4) => Nat.lt_of_lt_of_le lx (Below.size y.h)
      have LY := fun y : In (Ext w4) => Nat.lt_of_lt_of_le ly (Below.size y.h)
      have LB := fun y : In (Ext w4) => Nat.lt_of_lt_of_le lb (Below.size y.h)
      by_cases hk0 : k = 0
      · subst hk0
        have HVN : Hid (V = valFrom n (prevAt xs (0 + 1)) (xs.drop (0 + 1))) := by show _ = _; rw [HV.out, val_step0 HLT.out, if_neg HIX.out]
        go_wp2_with fail
        go_quiet (fail)
        go_wp2_with fail
        go_roundw
        case rel => exact ⟨0 + 1, by omega, by go_num, ⟨HB4.out.os, HB4.out.tape, HB4.out.output, HB4.out.size, HB4.out.block⟩, HVN.out⟩
        case measure => simp [intOf]; omega
      have hkp : (0 : Int) < (k : Int) := by omega
      have hkm : 0 ≤ (k : Int) - 1 := by omega
      have hkm2 : (k : Int) - 1 < (M : Int) := by omega
      have hwr : IntKind.i64.wrap ((k : Int) - 1) = ((k : Int) - 1) := IntWalk.i64_in _ (by omega)
      obtain ⟨q0, q1⟩ := HCS4.out (k - 1) (by have := HLT.out; omega)
      obtain ⟨y, hy⟩ : ∃ y, y = xs[k - 1]'(by have := HLT.out; omega) := ⟨_, rfl⟩
      rw [← hy] at q0 q1
      have EY := hidIt hy
      clear hy
      obtain ⟨gy, sy⟩ := y
      simp only at q0 q1
      have Q0 := fun y => Ext.cell q0 y
      have Q1 := fun y => Ext.cell q1 y
      have HVN : Hid (V = if geP (gy, sy) (gx, sx) = true then 8 else valFrom n (prevAt xs (k + 1)) (xs.drop (k + 1))) := by show _ = _; rw [HV.out, val_step (by omega) HLT.out, if_neg HIX.out, EX.out, EY.out]
      rw [geP_cmp] at HVN
      have hk1 : 1 ≤ k := by omega
      have hkpn : 0 < k := by omega
      have HCM : Hid (∀ wx : World, Calls Tryd.prog 47 #[.agg #[.int .i64 gy, .int .i64 sy], .agg #[.int .i64 gx, .int .i64 sx]] wx fun e w' => e = .returned (.int .i64 (cmpP (gy, sy) (gx, sx))) ∧ Below wx.heap.size wx w') := fun wx => (cmpPairs_any (gy, sy) (gx, sx) wx).mono fun e w' h => ⟨h.1, h.2.below⟩
      generalize cmpP (gy, sy) (gx, sx) = z at *
      by_cases hz : 0 ≤ z
      · have HE : Hid (V = 8) := by show _ = _; rw [HVN.out, if_pos (by simpa using hz)]
        go_wp2_with fail
        haveI := Ext.nonempty w4
        refine wp_region_in (Ext w4) (by kernel_rfl) (by kernel_rfl) (Ext.start w4) ?_
        repeat (go_big_quiet_step ((go_at_call 47; refine Ext.call (HCM.out _))))
        refine wpQuiet_nil ?_
        rintro _ ⟨⟨w5, h5⟩, rfl⟩
        have HBE := hidIt (HB.out.trans (Below.mono (HB4.out.trans (Below.mono h5 HB4.out.size)) HB.out.size))
        clear h5 X0 X1 Y0 Y1 LX LY LB Q0 Q1
        go_wp2_with fail
        go_ret
        exact ⟨ret_int HE.out.symm, HBE.out⟩
      · have HE : Hid (V = valFrom n (prevAt xs (k + 1)) (xs.drop (k + 1))) := by show _ = _; rw [HVN.out, if_neg (by simpa using hz)]
        have hz2 : decide (0 ≤ z) = false := decide_eq_false hz
        go_wp2_with fail
        haveI := Ext.nonempty w4
        refine wp_region_in (Ext w4) (by kernel_rfl) (by kernel_rfl) (Ext.start w4) ?_
        repeat (go_big_quiet_step ((go_at_call 47; refine Ext.call (HCM.out _))))
        refine wpQuiet_nil ?_
        rintro _ ⟨⟨w5, h5⟩, rfl⟩
        have HBE := hidIt (HB4.out.trans (Below.mono h5 HB4.out.size))
        clear h5 X0 X1 Y0 Y1 LX LY LB Q0 Q1
        go_wp2_with fail
        go_roundw
        case rel => exact ⟨k + 1, by omega, by go_num, HBE.out, HE.out⟩
        case measure => simp [intOf]; omega
    · have hkI : ¬ (k : Int) < (M : Int) := by omega
      have HE : Hid (V = 0) := by show _ = _; rw [HV.out, val_end (by rw [← HM.out]; omega)]
      have HBF := hidIt (HB.out.trans (Below.mono HBr.out HB.out.size))
      go_wp2_with fail
      go_ret
      exact ⟨ret_int HE.out.symm, HBF.out⟩

/-- The graph's number of nodes and attacks, or none if it is not valid. -/
def vN (n : Int) (xs : List (Int × Int)) : Int := if valE n xs = 0 then n else 0
def vL (n : Int) (xs : List (Int × Int)) : List (Int × Int) := if valE n xs = 0 then xs else []
def vV (n : Int) (xs : List (Int × Int)) (v : Value) : Value := if valE n xs = 0 then v else .slice none 0 0
theorem PairsAt.valid {w : World} {v : Value} {xs : List (Int × Int)} (h : PairsAt w v xs) (n : Int) : PairsAt w (vV n xs v) (vL n xs) := by
  unfold vV vL
  split
  · exact h
  · exact .inl ⟨rfl, rfl⟩
theorem vL_len (n : Int) (xs : List (Int × Int)) : (vL n xs).length ≤ xs.length := by
  unfold vL
  split
  · exact Nat.le_refl _
  · exact Nat.zero_le _
theorem fieldG0 (x : Int) (a : Option Addr) (l c : Nat) (w : World) : (Instr.field 24 (.agg #[.int .i64 x, .slice a l c]) 0).run Tryd.prog w = .ok (.int .i64 x) w := by
  kernel_rfl
theorem fieldG1 (x : Int) (a : Option Addr) (l c : Nat) (w : World) : (Instr.field 24 (.agg #[.int .i64 x, .slice a l c]) 1).run Tryd.prog w = .ok (.slice a l c) w := by
  kernel_rfl
theorem box_set2 {w : World} {P : Nat} {u v x y : Value} {t : TypeId} (h : w.heap[P]? = some (.cells #[u, v] t (0, 0))) : ((w.setCell ⟨P, 0, none⟩ x).setCell ⟨P, 1, none⟩ y).heap[P]? = some (.cells #[x, y] t (0, 0)) := by
  have h1 := set_cells (i := 0) (u := x) h
  have h2 := set_cells (i := 1) (u := y) h1
  simpa using h2

set_option maxRecDepth 100000 in
set_option maxHeartbeats 1000000 in
theorem rgvalid_any (n : Int) (v : Value) (xs : List (Int × Int)) (w : World) (h : PairsAt w v xs) (hl : xs.length ≤ 1000000) :
    Calls Tryd.prog 57 #[.agg #[.int .i64 n, v]] w fun e w' => e = .returned (.agg #[.int .i64 (vN n xs), vV n xs v]) ∧ Below w.heap.size w w' := by
  obtain ⟨⟨hX, hZ⟩, hB⟩ := two_boxes w (.cells #[.int .i64 n, v] 24) (.cells #[.int .i64 0, .slice none 0 0] 24)
  have h1 := h.below hB
  obtain ⟨a, c, rfl, -⟩ := h.form
  have HX := hidIt hX
  have HZ := hidIt hZ
  have HB := hidIt hB
  have H1 := hidIt h1
  have HL := hidIt hl
  have H0 := hidIt h
  have hsz : (w.alloc (.cells #[.int .i64 n, .slice a xs.length c] 24)).heap.size = w.heap.size + 1 := by simp
  clear hX hZ hB h1 h hl
  go_enter Tryd.func57, Tryd.ntmps57
  go_upto_region 1 with (fail)
  generalize ((w.alloc (.cells #[.int .i64 n, .slice a xs.length c] 24)).alloc (.cells #[.int .i64 0, .slice none 0 0] 24)) = w1 at *
  clear hsz
  obtain ⟨x0, x1⟩ := And.intro (cell_two0 HX.out) (cell_two1 HX.out)
  have lx := lt_of_block HX.out
  go_wp2_with fail
  refine (rgValidate_any n _ xs _ H1.out HL.out).mono ?_
  rintro e w2 ⟨rfl, hb2⟩
  have HB2 := hidIt (HB.out.trans (Below.mono hb2 HB.out.size))
  have HX2 := hidIt (blk_kept2 HX.out hb2)
  have HZ2 := hidIt (blk_kept2 HZ.out hb2)
  have H2 := hidIt (H1.out.below hb2)
  clear hb2 HB HX HZ H1 x0 x1 lx
  obtain ⟨x0, x1⟩ := And.intro (cell_two0 HX2.out) (cell_two1 HX2.out)
  have lx := lt_of_block HX2.out
  obtain ⟨z0, z1⟩ := And.intro (cell_two0 HZ2.out) (cell_two1 HZ2.out)
  have lz := lt_of_block HZ2.out
  have f0 := free_any HZ2.out 0
  have f1 := free_any HZ2.out 1
  have HVN : Hid (vN n xs = if valE n xs = 0 then n else 0) := (rfl : _ = _)
  have HVL : Hid (vV n xs (.slice a xs.length c) = if valE n xs = 0 then .slice a xs.length c else .slice none 0 0) := (rfl : _ = _)
  have hHB : ∀ (A B : Value), Below w.heap.size w ((w2.setCell ⟨w.heap.size + 1, 0, none⟩ A).setCell ⟨w.heap.size + 1, 1, none⟩ B) := fun A B => below_set5 (below_set5 HB2.out (Nat.le_succ _)) (Nat.le_succ _)
  have HHB := hidIt hHB
  clear hHB
  by_cases hE : valE n xs = 0
  · rw [if_pos hE] at HVN HVL
    have hEb : (valE n xs != 0) = false := by rw [hE]; rfl
    have EE := hidIt hE
    generalize valE n xs = V at *
    clear hE
    go_wp2_with fail
    refine bodyPost_ret (v := .agg #[.int .i64 n, .slice a xs.length c]) (by simp [results, Tryd.results57, go_sem, z0, z1, lz]) rfl ?_
    rw [HVN.out, HVL.out]
    exact ⟨rfl, HHB.out _ _⟩
  · rw [if_neg hE] at HVN HVL
    have hEb : (valE n xs != 0) = true := bne_iff_ne.2 hE
    have EE := hidIt hE
    generalize valE n xs = V at *
    clear hE
    go_wp2_with fail
    refine bodyPost_ret (v := .agg #[.int .i64 0, .slice none 0 0]) (by simp [results, Tryd.results57, go_sem, z0, z1, lz]) rfl ?_
    rw [HVN.out, HVL.out]
    exact ⟨rfl, HHB.out _ _⟩
end Go.Proofs.YtfiaoibfejginaaDoor
