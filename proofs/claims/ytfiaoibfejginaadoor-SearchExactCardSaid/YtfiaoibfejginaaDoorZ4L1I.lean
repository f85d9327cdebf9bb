/- Is a list a labelling: the program's Valid (with slices.ContainsFunc) and the reference's. -/
import Derived.Test.YtfiaoibfejginaaDoorZ4L1H

namespace Go.Proofs.YtfiaoibfejginaaDoor
set_option linter.unusedVariables false
set_option linter.unusedSimpArgs false
open Go Go.RowKit Go.Sort

def noL (x : Int) : Bool := !(decide (x = 1) || decide (x = 2) || decide (x = 3))
def validB (N : Nat) (l : List Int) : Bool := decide (l.length = N) && !(l.any noL)
theorem validB_iff {N : Nat} {l : List Int} : validB N l = true ↔ l.length = N ∧ LabOk l := by
  unfold validB LabOk noL
  rw [Bool.and_eq_true, decide_eq_true_eq, Bool.not_eq_true', List.any_eq_false]
  constructor
  · rintro ⟨h1, h2⟩
    exact ⟨h1, fun x hx => by have := h2 x hx; simp at this; omega⟩
  · rintro ⟨h1, h2⟩
    exact ⟨h1, fun x hx => by rcases h2 x hx with rfl | rfl | rfl <;> simp⟩

set_option maxHeartbeats 400000 in
theorem lNoLabel_any (x : Int) (w : World) : Calls Tryd.prog 54 #[.int .i64 x] w fun e w' => e = .returned (.bool (noL x)) ∧ w' = w := by
  have HV : Hid (noL x = !(decide (x = 1) || decide (x = 2) || decide (x = 3))) := (rfl : _ = _)
  generalize noL x = V at *
  by_cases h1 : x = 1
  · have HE : Hid (V = false) := by show _ = _; rw [HV.out]; simp [h1]
    subst h1
    go_enter Tryd.func54, Tryd.ntmps54
    go_wp2_with fail
    go_ret
    exact ⟨ret_bool HE.out.symm, rfl⟩
  by_cases h2 : x = 2
  · have HE : Hid (V = false) := by show _ = _; rw [HV.out]; simp [h2]
    subst h2
    go_enter Tryd.func54, Tryd.ntmps54
    go_wp2_with fail
    go_ret
    exact ⟨ret_bool HE.out.symm, rfl⟩
  have b1 : (x != 1) = true := bne_iff_ne.2 h1
  have b2 : (x != 2) = true := bne_iff_ne.2 h2
  by_cases h3 : x = 3
  · have HE : Hid (V = false) := by show _ = _; rw [HV.out]; simp [h3]
    subst h3
    clear h1 h2 b1 b2
    go_enter Tryd.func54, Tryd.ntmps54
    go_wp2_with fail
    go_ret
    exact ⟨ret_bool HE.out.symm, rfl⟩
  · have HE : Hid (V = true) := by show _ = _; rw [HV.out]; simp [h1, h2, h3]
    have b3 : (x != 3) = true := bne_iff_ne.2 h3
    clear h1 h2 h3
    go_enter Tryd.func54, Tryd.ntmps54
    go_wp2_with fail
    go_ret
    exact ⟨ret_bool HE.out.symm, rfl⟩

set_option maxRecDepth 100000 in
set_option maxHeartbeats 1000000 in
theorem indexFuncI_any (v : Value) (xs : List Int) (w : World) (h : IL w v xs) (hn : xs.length ≤ 1000000) :
    Calls Tryd.prog 72 #[v, .func (.func 54) #[] #[]] w fun e w' => ∃ r : Int, e = .returned (.int .i64 r) ∧ decide (0 ≤ r) = xs.any noL ∧ w' = w := by
  obtain ⟨a1, c1, rfl, k1⟩ := h.form
  have K1 := hidIt k1
  clear k1 h
  obtain ⟨M, hM⟩ : ∃ M, M = xs.length := ⟨_, rfl⟩
  have HX := hidIt hM
  rw [← hM] at hn ⊢
  clear hM
  go_enter Tryd.func72, Tryd.ntmps72
  go_wp2_with fail
  go_loopw [5, 8] (fun _ i wr => ∃ k : Nat, k ≤ M ∧ i = .int .i64 k ∧ wr = w ∧ Hid ((xs.take k).any noL = false)) (fun _ i _ => M - (intOf i).toNat)
  case atStart => exact ⟨0, Nat.zero_le _, (by first | rfl | trivial), (by first | rfl | trivial), (rfl : _ = _)⟩
  case round =>
    obtain ⟨k, hk, rfl, rfl, HT⟩ := hrel
    have hkI0 : (0 : Int) ≤ (k : Int) := by omega
    by_cases hlt : k < M
    · have hkI : (k : Int) < (M : Int) := by omega
      have h1x : k < xs.length := by have := HX.out; omega
      obtain ⟨b1, o1, rfl, l1, p0⟩ := K1.out k h1x
      have HS := hidIt (any_stepI h1x noL)
      have HM := hidIt (List.getElem_mem h1x)
      generalize xs[k] = x at *
      clear h1x
      cases hx : noL x
      · have HE : Hid ((xs.take (k + 1)).any noL = false) := by show _ = _; rw [HS.out, HT.out, hx]; rfl
        have HX1 := hidIt hx
        clear hx
        go_wp2_with fail
        refine (lNoLabel_any x _).mono ?_
        rw [HX1.out]
        rintro e w' ⟨rfl, rfl⟩
        go_wp2_with fail
        go_roundw
        case rel => exact ⟨k + 1, by omega, by go_num, (by first | rfl | trivial), HE.out⟩
        case measure => simp [intOf]; omega
      · have HE : Hid (xs.any noL = true) := List.any_eq_true.2 ⟨x, HM.out, hx⟩
        have HX1 := hidIt hx
        clear hx
        go_wp2_with fail
        refine (lNoLabel_any x _).mono ?_
        rw [HX1.out]
        rintro e w' ⟨rfl, rfl⟩
        go_wp2_with fail
        go_ret
        exact ⟨_, rfl, by rw [HE.out]; exact decide_eq_true hkI0, rfl⟩
    · have hkI : ¬ (k : Int) < (M : Int) := by omega
      have HE : Hid (xs.any noL = false) := by
        have := HT.out
        rwa [List.take_of_length_le (by have := HX.out; omega)] at this
      go_wp2_with fail
      go_ret
      exact ⟨_, rfl, by rw [HE.out]; decide, rfl⟩

set_option maxHeartbeats 400000 in
theorem containsFuncI_any (v : Value) (xs : List Int) (w : World) (h : IL w v xs) (hn : xs.length ≤ 1000000) :
    Calls Tryd.prog 53 #[v, .func (.func 54) #[] #[]] w fun e w' => e = .returned (.bool (xs.any noL)) ∧ w' = w := by
  have H := hidIt h
  obtain ⟨a1, c1, rfl, -⟩ := h.form
  clear h
  go_enter Tryd.func53, Tryd.ntmps53
  go_wp2_with fail
  refine (indexFuncI_any _ xs _ H.out hn).mono ?_
  rintro e w' ⟨r, rfl, hr, rfl⟩
  have HR := hidIt hr
  clear hr
  cases hx : xs.any noL
  · rw [hx] at HR
    have hr : ¬ 0 ≤ r := of_decide_eq_false HR.out
    have hr2 : r < 0 := by omega
    go_wp2_with fail
    go_ret
    exact ⟨ret_bool (by first | exact hx.symm | (simp [hx]; done) | (simp [hx]; omega)), rfl⟩
  · rw [hx] at HR
    have hr : 0 ≤ r := of_decide_eq_true HR.out
    go_wp2_with fail
    go_ret
    exact ⟨ret_bool (by first | exact hx.symm | (simp [hx]; done) | (simp [hx]; omega)), rfl⟩

set_option maxRecDepth 100000 in
set_option maxHeartbeats 1000000 in
theorem lValid_any (N : Nat) (v v2 : Value) (ps : List (Int × Int)) (l : List Int) (w : World) (h : PairsAt w v ps) (hok : GOk (N : Int) ps) (hl : ps.length ≤ 1000) (hs : IL w v2 l) (hsl : l.length ≤ 1000) :
    Calls Tryd.prog 39 #[.agg #[.int .i64 (N : Int), v], v2] w fun e w' => e = .returned (.bool (validB N l)) ∧ Below w.heap.size w w' := by
  have hB := bgrow w (.cells #[.int .i64 (N : Int), v] 24)
  have H1 := hidIt (h.below hB)
  have HS1 := hidIt (hs.below hB)
  obtain ⟨a, c, rfl, -⟩ := h.form
  obtain ⟨a2, c2, rfl, -⟩ := hs.form
  have HX := hidIt (heap_alloc_new w (.cells #[.int .i64 (N : Int), .slice a ps.length c] 24))
  have HB := hidIt hB
  have HVE := hidIt (valE_of hok)
  have HV : Hid (validB N l = (decide (l.length = N) && !(l.any noL))) := (rfl : _ = _)
  clear h hs hB hok
  go_enter Tryd.func39, Tryd.ntmps39
  go_upto_region 1 with (fail)
  generalize (w.alloc (.cells #[.int .i64 (N : Int), .slice a ps.length c] 24)) = w1 at *
  obtain ⟨x0, x1⟩ := And.intro (cell_two0 HX.out) (cell_two1 HX.out)
  have lx := lt_of_block HX.out
  go_wp2_with fail
  refine (gValidate_any (N : Int) _ ps _ H1.out (by omega)).mono ?_
  rw [HVE.out]
  rintro e w2 ⟨rfl, hb2⟩
  have HX2 := hidIt (blk_kept2 HX.out hb2)
  have HB2 := hidIt (HB.out.trans (Below.mono hb2 HB.out.size))
  have HS2 := hidIt (HS1.out.below hb2)
  clear hb2 HB HX H1 HS1 x0 x1 lx
  obtain ⟨x0, x1⟩ := And.intro (cell_two0 HX2.out) (cell_two1 HX2.out)
  have lx := lt_of_block HX2.out
  by_cases hlen : l.length = N
  · have hb : ((l.length : Int) == (N : Int)) = true := beq_iff_eq.2 (by omega)
    have HE : Hid (validB N l = !(l.any noL)) := by show _ = _; rw [HV.out, decide_eq_true hlen, Bool.true_and]
    clear hlen
    go_wp2_with fail
    refine (containsFuncI_any _ l _ HS2.out (by omega)).mono ?_
    rintro e w3 ⟨rfl, rfl⟩
    go_wp2_with fail
    go_ret
    exact ⟨ret_bool HE.out.symm, HB2.out⟩
  · have hb : ((l.length : Int) == (N : Int)) = false := beq_eq_false_iff_ne.2 (by omega)
    have HE : Hid (validB N l = false) := by show _ = _; rw [HV.out, decide_eq_false hlen, Bool.false_and]
    clear hlen
    go_wp2_with fail
    go_ret
    exact ⟨ret_bool HE.out.symm, HB2.out⟩

set_option maxRecDepth 100000 in
set_option maxHeartbeats 1000000 in
theorem rlValid_any (N : Nat) (v v2 : Value) (ps : List (Int × Int)) (l : List Int) (w : World) (h : PairsAt w v ps) (hs : IL w v2 l) (hsl : l.length ≤ 1000) :
    Calls Tryd.prog 90 #[.agg #[.int .i64 (N : Int), v], v2] w fun e w' => e = .returned (.bool (validB N l)) ∧ Below w.heap.size w w' := by
  have hB := bgrow w (.cells #[.int .i64 (N : Int), v] 24)
  obtain ⟨a, c, rfl, -⟩ := h.form
  obtain ⟨a2, c2, rfl, k2⟩ := (hs.below hB).form
  have K2 := hidIt k2
  have HX := hidIt (heap_alloc_new w (.cells #[.int .i64 (N : Int), .slice a ps.length c] 24))
  have HB := hidIt hB
  have HV : Hid (validB N l = (decide (l.length = N) && !(l.any noL))) := (rfl : _ = _)
  clear h hs hB k2
  go_enter Tryd.func90, Tryd.ntmps90
  go_upto_region 1 with (fail)
  generalize (w.alloc (.cells #[.int .i64 (N : Int), .slice a ps.length c] 24)) = w1 at *
  generalize w.heap.size = P at HX ⊢
  obtain ⟨x0, x1⟩ := And.intro (cell_two0 HX.out) (cell_two1 HX.out)
  have lx := lt_of_block HX.out
  obtain ⟨M, hM⟩ : ∃ M, M = l.length := ⟨_, rfl⟩
  have HM := hidIt hM
  rw [← hM] at hsl HV ⊢
  clear hM
  go_wp2_with fail
  go_loopw [5] (fun i wr => ∃ k : Nat, k ≤ M ∧ i = .int .i64 k ∧ wr = w1 ∧ Hid ((l.take k).any noL = false)) (fun i _ => M - (intOf i).toNat)
  case atStart => exact ⟨0, Nat.zero_le _, (by first | rfl | trivial), (by first | rfl | trivial), (rfl : _ = _)⟩
  case round =>
    obtain ⟨k, hk, rfl, rfl, HT⟩ := hrel
    have hkI0 : (0 : Int) ≤ (k : Int) := by omega
    by_cases hlt : k < M
    · have hkI : (k : Int) < (M : Int) := by omega
      have h1x : k < l.length := by have := HM.out; omega
      obtain ⟨b1, o1, rfl, l1, p0⟩ := K2.out k h1x
      have HS := hidIt (any_stepI h1x noL)
      have HMM := hidIt (List.getElem_mem h1x)
      generalize l[k] = x at *
      clear h1x
      by_cases hx1 : x < 1
      · have HE : Hid (validB N l = false) := by
          show _ = _
          rw [HV.out, show l.any noL = true from List.any_eq_true.2 ⟨x, HMM.out, by unfold noL; simp; omega⟩]
          simp
        go_wp2_with fail
        go_ret
        exact ⟨ret_bool HE.out.symm, HB.out⟩
      by_cases hx3 : 3 < x
      · have HE : Hid (validB N l = false) := by
          show _ = _
          rw [HV.out, show l.any noL = true from List.any_eq_true.2 ⟨x, HMM.out, by unfold noL; simp; omega⟩]
          simp
        go_wp2_with fail
        go_ret
        exact ⟨ret_bool HE.out.symm, HB.out⟩
      have HE : Hid ((l.take (k + 1)).any noL = false) := by
        show _ = _
        rw [HS.out, HT.out, show noL x = false from by unfold noL; simp; omega]
        rfl
      go_wp2_with fail
      go_roundw
      case rel => exact ⟨k + 1, by omega, by go_num, (by first | rfl | trivial), HE.out⟩
      case measure => simp [intOf]; omega
    · have hkI : ¬ (k : Int) < (M : Int) := by omega
      have HN : Hid (l.any noL = false) := by
        have := HT.out
        rwa [List.take_of_length_le (by have := HM.out; omega)] at this
      rw [HN.out] at HV
      by_cases hlen : M = N
      · have hb : ((M : Int) == (N : Int)) = true := beq_iff_eq.2 (by omega)
        have HE : Hid (validB N l = true) := by show _ = _; rw [HV.out, decide_eq_true hlen]; rfl
        clear hlen
        go_wp2_with fail
        go_ret
        exact ⟨ret_bool HE.out.symm, HB.out⟩
      · have hb : ((M : Int) == (N : Int)) = false := beq_eq_false_iff_ne.2 (by omega)
        have HE : Hid (validB N l = false) := by show _ = _; rw [HV.out, decide_eq_false hlen]; rfl
        clear hlen
        go_wp2_with fail
        go_ret
        exact ⟨ret_bool HE.out.symm, HB.out⟩
end Go.Proofs.YtfiaoibfejginaaDoor
