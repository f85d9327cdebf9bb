/- The program's Check. -/
import Derived.Test.YtghnojmaciljoaaZ2M1K

namespace Go.Proofs.Ytghnojmaciljoaa
set_option linter.unusedVariables false
set_option linter.unusedSimpArgs false
open Go Go.RowKit Go.Sort

/-- What Check answers. -/
def chkF (n : Int) (ps : List (Int × Int)) (l r : List Int) : Int :=
  if valE n ps ≠ 0 then 1 else if validB n.toNat l = false ∨ r.length ≠ n.toNat then 4 else if compB n.toNat ps l = false then 7 else if provB n.toNat ps l r = false then 11 else 0

set_option maxRecDepth 100000 in
set_option maxHeartbeats 1000000 in
theorem uCheck_any (n : Int) (v v1 v2 : Value) (ps : List (Int × Int)) (l r : List Int) (w : World) (h : PairsAt w v ps) (hpl : ps.length ≤ 1000) (h1 : IL w v1 l) (h2 : IL w v2 r) (hll : l.length ≤ 1000) (hrl : r.length ≤ 1000) :
    Calls Try.prog 18 #[.agg #[.int .i64 n, v], v1, v2] w fun e w' => e = .returned (.int .i64 (chkF n ps l r)) ∧ Below w.heap.size w w' := by
  have hgr := bgrow w (.cells #[.int .i64 n, v] 27)
  have HG := hidIt (h.below hgr)
  have H1 := hidIt (h1.below hgr)
  have H2 := hidIt (h2.below hgr)
  obtain ⟨a, c, rfl, -⟩ := h.pc
  obtain ⟨a1, c1, rfl, -⟩ := h1.ic
  obtain ⟨a2, c2, rfl, -⟩ := h2.ic
  have HX := hidIt (heap_alloc_new w (.cells #[.int .i64 n, .slice a ps.length c] 27))
  have HB := hidIt hgr
  have HC : Hid (chkF n ps l r = if valE n ps ≠ 0 then 1 else if validB n.toNat l = false ∨ r.length ≠ n.toNat then 4 else if compB n.toNat ps l = false then 7 else if provB n.toNat ps l r = false then 11 else 0) := (rfl : _ = _)
  generalize chkF n ps l r = CH at *
  clear h h1 h2 hgr
  go_enter Try.func18, Try.ntmps18
  go_upto_region 1 with (fail)
  generalize (w.alloc (.cells #[.int .i64 n, .slice a ps.length c] 27)) = w1 at *
  generalize w.heap.size = P at HX ⊢
  obtain ⟨x0, x1⟩ := And.intro (cell_two0 HX.out) (cell_two1 HX.out)
  have lx := lt_of_block HX.out
  go_wp2_with fail
  refine (gValidate_any n _ ps w1 HG.out (by omega)).mono ?_
  by_cases hv : valE n ps = 0
  rotate_left
  · have HE : Hid (CH = 1) := HC.out.trans (if_pos hv)
    have hvb : (valE n ps != 0) = true := bne_iff_ne.2 hv
    generalize valE n ps = ve at *
    rintro e w3 ⟨rfl, hb3⟩
    have HB3 := hidIt (HB.out.trans (Below.mono hb3 HB.out.size))
    clear hb3
    go_wp2_with fail
    go_ret
    exact ⟨by rw [HE.out]; rfl, HB3.out⟩
  rw [hv]
  have HOK := hidIt (valE_ok hv)
  obtain ⟨N, rfl⟩ : ∃ N : Nat, n = (N : Int) := ⟨n.toNat, by have := HOK.out.n0; omega⟩
  rw [if_neg (fun h => h hv), Int.toNat_natCast] at HC
  rintro e w3 ⟨rfl, hb3⟩
  have HX3 := hidIt (blk_kept2 HX.out hb3)
  have HB3 := hidIt (HB.out.trans (Below.mono hb3 HB.out.size))
  have HG3 := hidIt (HG.out.below hb3)
  have H13 := hidIt (H1.out.below hb3)
  have H23 := hidIt (H2.out.below hb3)
  clear hb3 HB HX HG H1 H2 x0 x1 lx hv
  obtain ⟨x0, x1⟩ := And.intro (cell_two0 HX3.out) (cell_two1 HX3.out)
  have lx := lt_of_block HX3.out
  have hN40 : N ≤ 40 := by have := HOK.out.n40; omega
  have HVAL := hidIt (lValid_any N _ _ ps l w3 HG3.out HOK.out hpl H13.out hll)
  cases hvl : validB N l
  · have HE : Hid (CH = 4) := HC.out.trans (if_pos (.inl hvl))
    rw [hvl] at HVAL
    clear hvl
    go_wp2_with fail
    refine HVAL.out.mono ?_
    rintro e w4 ⟨rfl, hb4⟩
    have HB4 := hidIt (HB3.out.trans (Below.mono hb4 HB3.out.size))
    clear hb4
    go_wp2_with fail
    go_ret
    exact ⟨by rw [HE.out]; rfl, HB4.out⟩
  rw [hvl] at HVAL
  have HVL := hidIt (validB_iff.1 hvl)
  obtain ⟨R, hR⟩ : ∃ R, R = r.length := ⟨_, rfl⟩
  have HR := hidIt hR
  rw [← hR]
  by_cases hrn : R = N
  rotate_left
  · have HE : Hid (CH = 4) := HC.out.trans (if_pos (.inr (by rw [← hR]; exact hrn)))
    have hrb : ((R : Int) != (N : Int)) = true := bne_iff_ne.2 (by omega)
    clear hvl hR
    go_wp2_with fail
    refine HVAL.out.mono ?_
    rintro e w4 ⟨rfl, hb4⟩
    have HX4 := hidIt (blk_kept2 HX3.out hb4)
    have HB4 := hidIt (HB3.out.trans (Below.mono hb4 HB3.out.size))
    clear hb4 x0 x1 lx
    obtain ⟨x0, x1⟩ := And.intro (cell_two0 HX4.out) (cell_two1 HX4.out)
    have lx := lt_of_block HX4.out
    go_wp2_with fail
    go_ret
    exact ⟨by rw [HE.out]; rfl, HB4.out⟩
  subst hrn
  have HC2 := hidIt (HC.out.trans (if_neg (fun h => by rcases h with h | h; rw [hvl] at h; cases h; exact h (by rw [← hR]))))
  have hrb : ((R : Int) != (R : Int)) = false := bne_self_eq_false _
  clear hvl hR HC
  go_wp2_with fail
  refine HVAL.out.mono ?_
  rintro e w4 ⟨rfl, hb4⟩
  have HX4 := hidIt (blk_kept2 HX3.out hb4)
  have HB4 := hidIt (HB3.out.trans (Below.mono hb4 HB3.out.size))
  have HG4 := hidIt (HG3.out.below hb4)
  have H14 := hidIt (H13.out.below hb4)
  have H24 := hidIt (H23.out.below hb4)
  clear hb4 HB3 HX3 HG3 H13 H23 x0 x1 lx HVAL
  obtain ⟨x0, x1⟩ := And.intro (cell_two0 HX4.out) (cell_two1 HX4.out)
  have lx := lt_of_block HX4.out
  have HCOM := hidIt (lIsComplete_any R _ _ ps l w4 HG4.out HOK.out hpl H14.out hll)
  change Hid (Calls _ _ _ _ fun e w' => e = .returned (.bool (compB R ps l)) ∧ _) at HCOM
  cases hcp : compB R ps l
  · have HE : Hid (CH = 7) := HC2.out.trans (if_pos hcp)
    rw [hcp] at HCOM
    clear hcp
    go_wp2_with fail
    refine HCOM.out.mono ?_
    rintro e w5 ⟨rfl, hb5⟩
    have HB5 := hidIt (HB4.out.trans (Below.mono hb5 HB4.out.size))
    clear hb5
    go_wp2_with fail
    go_ret
    exact ⟨by rw [HE.out]; rfl, HB5.out⟩
  rw [hcp] at HCOM
  have HC3 := hidIt (HC2.out.trans (if_neg (by rw [hcp]; decide)))
  clear hcp HC2
  go_wp2_with fail
  refine HCOM.out.mono ?_
  rintro e w5 ⟨rfl, hb5⟩
  have HX5 := hidIt (blk_kept2 HX4.out hb5)
  have HB5 := hidIt (HB4.out.trans (Below.mono hb5 HB4.out.size))
  have HG5 := hidIt (HG4.out.below hb5)
  have H15 := hidIt (H14.out.below hb5)
  have H25 := hidIt (H24.out.below hb5)
  clear hb5 HB4 HX4 HG4 H14 H24 x0 x1 lx HCOM
  obtain ⟨x0, x1⟩ := And.intro (cell_two0 HX5.out) (cell_two1 HX5.out)
  have lx := lt_of_block HX5.out
  have HPR := hidIt (uProves_any R _ _ _ ps l r w5 HG5.out HOK.out (by omega) H15.out H25.out HVL.out.1 HR.out.symm HVL.out.2)
  rw [← HR.out] at HPR
  cases hpv : provB R ps l r
  · have HE : Hid (CH = 11) := HC3.out.trans (if_pos hpv)
    rw [hpv] at HPR
    clear hpv
    go_wp2_with fail
    refine HPR.out.mono ?_
    rintro e w6 ⟨rfl, hb6⟩
    have HB6 := hidIt (HB5.out.trans (Below.mono hb6 HB5.out.size))
    clear hb6
    go_wp2_with fail
    go_ret
    exact ⟨by rw [HE.out]; rfl, HB6.out⟩
  · have HE : Hid (CH = 0) := HC3.out.trans (if_neg (by rw [hpv]; decide))
    rw [hpv] at HPR
    clear hpv
    go_wp2_with fail
    refine HPR.out.mono ?_
    rintro e w6 ⟨rfl, hb6⟩
    have HB6 := hidIt (HB5.out.trans (Below.mono hb6 HB5.out.size))
    clear hb6
    go_wp2_with fail
    go_ret
    exact ⟨by rw [HE.out]; rfl, HB6.out⟩
end Go.Proofs.Ytghnojmaciljoaa
