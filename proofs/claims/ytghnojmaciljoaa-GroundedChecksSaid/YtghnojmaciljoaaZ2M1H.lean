/- Label and Ranks; the chapter's first example. -/
import Derived.Test.YtghnojmaciljoaaZ2M1G
import Derived.Test.YtghnojmaciljoaaZ2D

namespace Go.Proofs.Ytghnojmaciljoaa
set_option linter.unusedVariables false
set_option linter.unusedSimpArgs false
open Go Go.RowKit Go.Sort

/-- What Label and Ranks give. -/
def LabOut12 (N : Nat) (ps : List (Int × Int)) (w : World) (e : Ending) (w' : World) : Prop := ∃ (L : Nat) (lab rk : List Int), e = .returned (.slice (some ⟨L, 0, none⟩) N N) ∧ IR w' L lab ∧ GSpec N ps lab rk ∧ Below w.heap.size w w'
def RkOut12 (N : Nat) (ps : List (Int × Int)) (w : World) (e : Ending) (w' : World) : Prop := ∃ (L : Nat) (lab rk : List Int), e = .returned (.slice (some ⟨L, 0, none⟩) N N) ∧ IR w' L rk ∧ GSpec N ps lab rk ∧ Below w.heap.size w w'

set_option maxRecDepth 100000 in
set_option maxHeartbeats 1000000 in
theorem uLabel_any (N : Nat) (a : Option Addr) (c : Nat) (ps : List (Int × Int)) (w : World) (h : PairsAt w (.slice a ps.length c) ps) (hok : GOk (N : Int) ps) (hpl : ps.length ≤ 2000) :
    Calls Try.prog 11 #[.agg #[.int .i64 (N : Int), .slice a ps.length c]] w (LabOut12 N ps w) := by
  have hgr := bgrow w (.cells #[.int .i64 (N : Int), .slice a ps.length c] 27)
  have H1 := hidIt (h.below hgr)
  have HB := hidIt hgr
  have HX := hidIt (heap_alloc_new w (.cells #[.int .i64 (N : Int), .slice a ps.length c] 27))
  clear h hgr
  go_enter Try.func11, Try.ntmps11
  go_upto_region 1 with (fail)
  generalize (w.alloc (.cells #[.int .i64 (N : Int), .slice a ps.length c] 27)) = w1 at *
  obtain ⟨x0, x1⟩ := And.intro (cell_two0 HX.out) (cell_two1 HX.out)
  have lx := lt_of_block HX.out
  go_wp2_with fail
  refine (build_any N a c ps w1 H1.out hok hpl).mono ?_
  rintro e w2 ⟨L, R, lab, rk, rfl, hl, hr, hs, hb⟩
  have HL := hidIt hl
  have HS := hidIt hs
  have HB2 := hidIt (HB.out.trans (Below.mono hb HB.out.size))
  clear hl hr hs hb
  go_wp2_with fail
  go_ret
  exact ⟨L, lab, rk, rfl, HL.out, HS.out, HB2.out⟩
set_option maxRecDepth 100000 in
set_option maxHeartbeats 1000000 in
theorem uRanks_any (N : Nat) (a : Option Addr) (c : Nat) (ps : List (Int × Int)) (w : World) (h : PairsAt w (.slice a ps.length c) ps) (hok : GOk (N : Int) ps) (hpl : ps.length ≤ 2000) :
    Calls Try.prog 13 #[.agg #[.int .i64 (N : Int), .slice a ps.length c]] w (RkOut12 N ps w) := by
  have hgr := bgrow w (.cells #[.int .i64 (N : Int), .slice a ps.length c] 27)
  have H1 := hidIt (h.below hgr)
  have HB := hidIt hgr
  have HX := hidIt (heap_alloc_new w (.cells #[.int .i64 (N : Int), .slice a ps.length c] 27))
  clear h hgr
  go_enter Try.func13, Try.ntmps13
  go_upto_region 1 with (fail)
  generalize (w.alloc (.cells #[.int .i64 (N : Int), .slice a ps.length c] 27)) = w1 at *
  obtain ⟨x0, x1⟩ := And.intro (cell_two0 HX.out) (cell_two1 HX.out)
  have lx := lt_of_block HX.out
  go_wp2_with fail
  refine (build_any N a c ps w1 H1.out hok hpl).mono ?_
  rintro e w2 ⟨L, R, lab, rk, rfl, hl, hr, hs, hb⟩
  have HL := hidIt hr
  have HS := hidIt hs
  have HB2 := hidIt (HB.out.trans (Below.mono hb HB.out.size))
  clear hl hr hs hb
  go_wp2_with fail
  go_ret
  exact ⟨R, lab, rk, rfl, HL.out, HS.out, HB2.out⟩

theorem exC_at {k i : Nat} : At exC k i ↔ (k = 0 ∧ i = 1) ∨ (k = 1 ∧ i = 2) := by
  unfold At exC
  simp only [List.mem_cons, Prod.mk.injEq, List.not_mem_nil, or_false]
  omega
theorem exC_spec : GSpec 3 exC [1, 2, 1] [1, 1, 2] := by
  refine ⟨rfl, rfl, fun i hi => ?_, fun i hi h => ?_, fun i hi h => ?_, fun i hi h => ?_⟩
  · match i, hi with
    | 0, _ => exact .inl rfl
    | 1, _ => exact .inr (.inl rfl)
    | 2, _ => exact .inl rfl
  · match i, hi with
    | 0, _ => exact ⟨by decide, fun k hk => by have := exC_at.1 hk; omega, .inl rfl⟩
    | 1, _ => exact absurd h (by decide)
    | 2, _ =>
      refine ⟨by decide, fun k hk => ?_, .inr ⟨1, exC_at.2 (.inr ⟨rfl, rfl⟩), rfl⟩⟩
      obtain rfl : k = 1 := by have := exC_at.1 hk; omega
      exact ⟨rfl, by decide⟩
  · match i, hi with
    | 0, _ => exact absurd h (by decide)
    | 1, _ =>
      refine ⟨by decide, ⟨0, exC_at.2 (.inl ⟨rfl, rfl⟩), rfl, rfl⟩, fun k hk _ => ?_⟩
      obtain rfl : k = 0 := by have := exC_at.1 hk; omega
      decide
    | 2, _ => exact absurd h (by decide)
  · match i, hi with
    | 0, _ => exact absurd h (by decide)
    | 1, _ => exact absurd h (by decide)
    | 2, _ => exact absurd h (by decide)

set_option maxRecDepth 100000 in
set_option maxHeartbeats 2000000 in
theorem awake12_any (w : World) : Calls Try.prog 15 #[] w fun e w' => e = .returned (.bool true) ∧ Below w.heap.size w w' := by
  have hg1 := bgrow w (.cells #[.int .i64 0, .int .i64 1, .int .i64 1, .int .i64 2] 43)
  have hP1 := heap_alloc_new w (.cells #[.int .i64 0, .int .i64 1, .int .i64 1, .int .i64 2] 43)
  have hg2 := bgrow (w.alloc (.cells #[.int .i64 0, .int .i64 1, .int .i64 1, .int .i64 2] 43)) (.cells #[.int .i64 3, .slice (some ⟨w.heap.size, 0, none⟩) 2 2] 27)
  have HX := hidIt (heap_alloc_new (w.alloc (.cells #[.int .i64 0, .int .i64 1, .int .i64 1, .int .i64 2] 43)) (.cells #[.int .i64 3, .slice (some ⟨w.heap.size, 0, none⟩) 2 2] 27))
  have HP := hidIt (pairs_blk (ps := exC) (c := 2) (blk_kept2 hP1 hg2) (by decide) (by decide))
  have HB := hidIt (hg1.trans (Below.mono hg2 hg1.size))
  clear hg1 hP1 hg2
  go_enter Try.func15, Try.ntmps15
  go_upto_region 2 with (fail)
  have hsz : (w.alloc (.cells #[.int .i64 0, .int .i64 1, .int .i64 1, .int .i64 2] 43)).heap.size = w.heap.size + 1 := by simp
  rw [hsz] at HX
  clear hsz
  generalize ((w.alloc (.cells #[.int .i64 0, .int .i64 1, .int .i64 1, .int .i64 2] 43)).alloc (.cells #[.int .i64 3, .slice (some ⟨w.heap.size, 0, none⟩) 2 2] 27)) = w1 at *
  obtain ⟨x0, x1⟩ := And.intro (cell_two0 HX.out) (cell_two1 HX.out)
  have lx := lt_of_block HX.out
  go_wp2_with fail
  refine (uLabel_any 3 _ 2 exC w1 HP.out exC_ok (by decide)).mono ?_
  rintro e w2 ⟨L, lab, rk, rfl, hl, hs, hb⟩
  obtain ⟨rfl, rfl⟩ := hs.uniq exC_ok.ix exC_spec
  have hg3 := bgrow w2 (.cells #[.int .i64 1, .int .i64 2, .int .i64 1] 3)
  have HI3 := hidIt (ints_blk (zs := [1, 2, 1]) (c := 3) (heap_alloc_new w2 (.cells #[.int .i64 1, .int .i64 2, .int .i64 1] 3)) (by decide) (by decide))
  have HL3 := hidIt ((hl.go hg3).il (c := 3) (by decide) (by decide))
  have HX3 := hidIt (blk_kept2 (blk_kept2 HX.out hb) hg3)
  have HP3 := hidIt ((HP.out.below hb).below hg3)
  have HB2 := hidIt (HB.out.trans (Below.mono hb HB.out.size))
  have HB3 := hidIt (HB2.out.trans (Below.mono hg3 HB2.out.size))
  clear hl hs hb hg3 x0 x1 lx HX HP HB HB2
  go_wp2_with fail
  generalize (w2.alloc (.cells #[.int .i64 1, .int .i64 2, .int .i64 1] 3)) = w3 at *
  refine (kInts_any _ _ [1, 2, 1] [1, 2, 1] w3 HL3.out HI3.out (by decide) (by decide)).mono ?_
  rw [decide_eq_true rfl]
  rintro e w4 ⟨rfl, hb4⟩
  have HX4 := hidIt (blk_kept2 HX3.out hb4)
  have HP4 := hidIt (HP3.out.below hb4)
  have HB4 := hidIt (HB3.out.trans (Below.mono hb4 HB3.out.size))
  clear hb4 HX3 HP3 HB3 HI3 HL3
  obtain ⟨x0, x1⟩ := And.intro (cell_two0 HX4.out) (cell_two1 HX4.out)
  have lx := lt_of_block HX4.out
  go_wp2_with fail
  refine (uRanks_any 3 _ 2 exC w4 HP4.out exC_ok (by decide)).mono ?_
  rintro e w5 ⟨L2, lab, rk, rfl, hl, hs, hb⟩
  obtain ⟨rfl, rfl⟩ := hs.uniq exC_ok.ix exC_spec
  have hg6 := bgrow w5 (.cells #[.int .i64 1, .int .i64 1, .int .i64 2] 3)
  have HI6 := hidIt (ints_blk (zs := [1, 1, 2]) (c := 3) (heap_alloc_new w5 (.cells #[.int .i64 1, .int .i64 1, .int .i64 2] 3)) (by decide) (by decide))
  have HL6 := hidIt ((hl.go hg6).il (c := 3) (by decide) (by decide))
  have HB5 := hidIt (HB4.out.trans (Below.mono hb HB4.out.size))
  have HB6 := hidIt (HB5.out.trans (Below.mono hg6 HB5.out.size))
  clear hl hs hb hg6 x0 x1 lx HX4 HP4 HB4 HB5
  go_wp2_with fail
  generalize (w5.alloc (.cells #[.int .i64 1, .int .i64 1, .int .i64 2] 3)) = w6 at *
  refine (kInts_any _ _ [1, 1, 2] [1, 1, 2] w6 HL6.out HI6.out (by decide) (by decide)).mono ?_
  rw [decide_eq_true rfl]
  rintro e w7 ⟨rfl, hb7⟩
  have HB7 := hidIt (HB6.out.trans (Below.mono hb7 HB6.out.size))
  clear hb7
  go_wp2_with fail
  go_ret
  exact ⟨rfl, HB7.out⟩
end Go.Proofs.Ytghnojmaciljoaa
