/- Label and Ranks; the chapter's first example. -/
import Derived.Test.YtihmdnbeonefcaaDoorZ4M1G
import Derived.Test.YtihmdnbeonefcaaDoorZ4L1L

namespace Go.Proofs.YtihmdnbeonefcaaDoor
set_option linter.unusedVariables false
set_option linter.unusedSimpArgs false
open Go Go.RowKit Go.Sort

/-- What Label and Ranks give. -/
def LabOut12 (N : Nat) (ps : List (Int × Int)) (w : World) (e : Ending) (w' : World) : Prop := ∃ (L : Nat) (lab rk : List Int), e = .returned (.slice (some ⟨L, 0, none⟩) N N) ∧ IR w' L lab ∧ GSpec N ps lab rk ∧ Below w.heap.size w w'
def RkOut12 (N : Nat) (ps : List (Int × Int)) (w : World) (e : Ending) (w' : World) : Prop := ∃ (L : Nat) (lab rk : List Int), e = .returned (.slice (some ⟨L, 0, none⟩) N N) ∧ IR w' L rk ∧ GSpec N ps lab rk ∧ Below w.heap.size w w'

set_option maxRecDepth 100000 in
set_option maxHeartbeats 1000000 in
theorem uLabel_any (N : Nat) (a : Option Addr) (c : Nat) (ps : List (Int × Int)) (w : World) (h : PairsAt w (.slice a ps.length c) ps) (hok : GOk (N : Int) ps) (hpl : ps.length ≤ 2000) :
    Calls Tryd.prog 40 #[.agg #[.int .i64 (N : Int), .slice a ps.length c]] w (LabOut12 N ps w) := by
  have hgr := bgrow w (.cells #[.int .i64 (N : Int), .slice a ps.length c] 27)
  have H1 := hidIt (h.below hgr)
  have HB := hidIt hgr
  have HX := hidIt (heap_alloc_new w (.cells #[.int .i64 (N : Int), .slice a ps.length c] 27))
  clear h hgr
  go_enter Tryd.func40, Tryd.ntmps40
  go_upto_region 1 with (fail)
  generalize (w.alloc (.cells #[.int .i64 (N : Int), .slice a ps.length c] 27)) = w1 at *
  obtain ⟨x0, x1⟩ := And.intro (cell_two0 HX.out) (cell_two1 HX.out)
  have lx := lt_of_block HX.out
  go_wp2_with fail
  refine (build_any N a c ps w1 H1.out hok hpl).mono ?_
  rintro e w2 ⟨L, R, lab, rk, rfl, hl, hr, hs, hb⟩
  have HL := hidIt hl
  have HS := hidIt hs
  have HB2 := hidIt (HB.out.trans (Below.mono hb HB.out.size))
  clear hl hr hs hb
  go_wp2_with fail
  go_ret
  exact ⟨L, lab, rk, rfl, HL.out, HS.out, HB2.out⟩
theorem exC_at {k i : Nat} : At exC k i ↔ (k = 0 ∧ i = 1) ∨ (k = 1 ∧ i = 2) := by
  unfold At exC
  simp only [List.mem_cons, Prod.mk.injEq, List.not_mem_nil, or_false]
  omega
theorem exC_spec : GSpec 3 exC [1, 2, 1] [1, 1, 2] := by
  refine ⟨rfl, rfl, fun i hi => ?_, fun i hi h => ?_, fun i hi h => ?_, fun i hi h => ?_⟩
  · match i, hi with
    | 0, _ => exact .inl rfl
    | 1, _ => exact .inr (.inl rfl)
    | 2, _ => exact .inl rfl
  · match i, hi with
    | 0, _ => exact ⟨by decide, fun k hk => by have := exC_at.1 hk; omega, .inl rfl⟩
    | 1, _ => exact absurd h (by decide)
    | 2, _ =>
      refine ⟨by decide, fun k hk => ?_, .inr ⟨1, exC_at.2 (.inr ⟨rfl, rfl⟩), rfl⟩⟩
      obtain rfl : k = 1 := by have := exC_at.1 hk; omega
      exact ⟨rfl, by decide⟩
  · match i, hi with
    | 0, _ => exact absurd h (by decide)
    | 1, _ =>
      refine ⟨by decide, ⟨0, exC_at.2 (.inl ⟨rfl, rfl⟩), rfl, rfl⟩, fun k hk _ => ?_⟩
      obtain rfl : k = 0 := by have := exC_at.1 hk; omega
      decide
    | 2, _ => exact absurd h (by decide)
  · match i, hi with
    | 0, _ => exact absurd h (by decide)
    | 1, _ => exact absurd h (by decide)
    | 2, _ => exact absurd h (by decide)

end Go.Proofs.YtihmdnbeonefcaaDoor
