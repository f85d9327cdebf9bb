/- Sets of ranks at the chapter's two arguments. -/
import Derived.Test.YtplkkkkcmfgkfaaGreatA9b
namespace Go.Proofs.YtplkkkkcmfgkfaaGreat
set_option linter.unusedVariables false
set_option linter.unusedSimpArgs false
open Go Go.RowKit Go.Sort

theorem insI_nil (w : World) : Calls Tryz.prog 118 #[.slice none 0 0, .int .i64 0, .int .i64 0] w fun e w' => e = .returned (.tuple #[]) ∧ w' = w := by
  go_enter Tryz.func118, Tryz.ntmps118
  go_wp2_with fail
  go_rounds 1
  go_returns
  exact ⟨rfl, rfl⟩
theorem pdqI_nil (k : Int) (w : World) : Calls Tryz.prog 117 #[.slice none 0 0, .int .i64 0, .int .i64 0, .int .i64 k] w fun e w' => e = .returned (.tuple #[]) ∧ w' = w := by
  go_enter Tryz.func117, Tryz.ntmps117
  go_wp2_with fail
  refine wp_loop_rounds 1 ?_
  rw [rounds_succ]
  go_wp2_with fail
  refine (insI_nil _).mono ?_
  rintro e w1 ⟨rfl, rfl⟩
  go_wp2_with fail
  go_returns
  exact ⟨rfl, rfl⟩
theorem srtI_nil (w : World) : Calls Tryz.prog 114 #[.slice none 0 0] w fun e w' => e = .returned (.tuple #[]) ∧ w' = w := by
  go_enter Tryz.func114, Tryz.ntmps114
  go_wp2_with fail
  refine (Tryz.bits_Len 0 _ (by decide) (by decide)).mono ?_
  rintro e w1 ⟨rfl, rfl⟩
  go_wp2_with fail
  refine (pdqI_nil _ _).mono ?_
  rintro e w1 ⟨rfl, rfl⟩
  go_wp2_with fail
  go_returns
  exact ⟨rfl, rfl⟩
theorem cmpctI_nil (w : World) : Calls Tryz.prog 115 #[.slice none 0 0] w fun e w' => e = .returned (.slice none 0 0) ∧ w' = w := by
  go_enter Tryz.func115, Tryz.ntmps115
  go_wp2
  go_ret
  exact ⟨rfl, rfl⟩

theorem bothEmpty_any (a b : Option Addr) (n m : Nat) (c d : Nat) (w : World) : Calls Tryz.prog 92 #[.slice a n c, .slice b m d] w fun e w' => e = .returned (.bool (decide (n = 0) && decide (m = 0))) ∧ w' = w := by
  rcases n with _ | n <;> rcases m with _ | m
  all_goals (
    go_enter Tryz.func92, Tryz.ntmps92
    go_wp2_with fail)
  all_goals (try go_ret)
  all_goals (refine ⟨ret_bool ?_, rfl⟩; first | rfl | (simp; done) | (simp; omega))

theorem min_one (v : Value) (B : Nat) (z : Int) (w : World) (h : Own1 w B v z) : Calls Tryz.prog 93 #[v] w fun e w' => e = .returned (.int .i64 z) ∧ w' = w := by
  obtain ⟨g, c, rfl, -, lv, c0⟩ := h.slice
  clear h
  go_enter Tryz.func93, Tryz.ntmps93
  go_wp2_with fail
  refine wp_loop_rounds 1 ?_
  rw [rounds_succ]
  go_wp2_with fail
  go_ret
  exact ⟨rfl, rfl⟩

theorem setLess_one (u v : Value) (B C : Nat) (y z : Int) (w : World) (hu : Own1 w B u y) (hv : Own1 w C v z) : Calls Tryz.prog 66 #[u, v, .int .i64 1] w fun e w' => e = .returned (.bool (decide (y < z))) ∧ w' = w := by
  have HU := hidIt hu
  have HV := hidIt hv
  obtain ⟨g, c, rfl, -, -, -⟩ := hu.slice
  obtain ⟨g', c', rfl, -, -, -⟩ := hv.slice
  clear hu hv
  go_enter Tryz.func66, Tryz.ntmps66
  go_wp2_with fail
  refine (min_one _ _ y _ HU.out).mono ?_
  rintro e w1 ⟨rfl, rfl⟩
  go_wp2_with fail
  refine (min_one _ _ z _ HV.out).mono ?_
  rintro e w1 ⟨rfl, rfl⟩
  go_wp2_with fail
  all_goals (try go_ret)
  all_goals (refine ⟨ret_bool ?_, rfl⟩; first | rfl | (simp; done) | (simp; omega))

theorem less1_one (u v : Value) (B C : Nat) (y z : Int) (m : Nat) (w : World) (hu : Own1 w B u y) (hv : Own1 w C v z) (hm : CR w m [.int .i64 1, .int .i64 1]) :
    Calls Tryz.prog 65 #[u, v, .pointer (some ⟨m, 0, none⟩)] w fun e w' => e = .returned (.bool (decide (y < z))) ∧ w' = w := by
  have HU := hidIt hu
  have HV := hidIt hv
  have y1 := hm.at_ 1 _ rfl
  have ly := hm.1
  obtain ⟨g, c, rfl, -, -, -⟩ := hu.slice
  obtain ⟨g', c', rfl, -, -, -⟩ := hv.slice
  clear hu hv hm
  go_enter Tryz.func65, Tryz.ntmps65
  go_wp2_with fail
  refine (setLess_one _ _ _ _ y z _ HU.out HV.out).mono ?_
  rintro e w1 ⟨rfl, rfl⟩
  go_wp2_with fail
  go_ret
  exact ⟨rfl, rfl⟩

theorem lastLink_one (u v : Value) (B C : Nat) (y z : Int) (m : Nat) (w : World) (hu : Own1 w B u y) (hv : Own1 w C v z) (hm : CR w m [.int .i64 1, .int .i64 1]) :
    Calls Tryz.prog 63 #[.agg #[u, .slice none 0 0, .slice none 0 0], .agg #[v, .slice none 0 0, .slice none 0 0], .func (Fn.func 65) #[] #[.pointer (some ⟨m, 0, none⟩)]] w fun e w' => e = .returned (.bool (decide (y < z))) ∧ Below w.heap.size w w' := by
  obtain ⟨g, c, rfl, -, -, -⟩ := hu.slice
  obtain ⟨g', c', rfl, -, -, -⟩ := hv.slice
  have hg1 := bgrow w (.cells #[.slice (some ⟨g, 0, none⟩) 1 c, .slice none 0 0, .slice none 0 0] 123)
  have hg2 := bgrow (w.alloc (.cells #[.slice (some ⟨g, 0, none⟩) 1 c, .slice none 0 0, .slice none 0 0] 123)) (.cells #[.slice (some ⟨g', 0, none⟩) 1 c', .slice none 0 0, .slice none 0 0] 123)
  have HU := hidIt ((hu.go hg1).go hg2)
  have HV := hidIt ((hv.go hg1).go hg2)
  have HM := hidIt ((hm.go hg1).go hg2)
  have HX := hidIt (blk_kept2 (heap_alloc_new w (.cells #[.slice (some ⟨g, 0, none⟩) 1 c, .slice none 0 0, .slice none 0 0] 123)) hg2)
  have hY := heap_alloc_new (w.alloc (.cells #[.slice (some ⟨g, 0, none⟩) 1 c, .slice none 0 0, .slice none 0 0] 123)) (.cells #[.slice (some ⟨g', 0, none⟩) 1 c', .slice none 0 0, .slice none 0 0] 123)
  rw [World.size_alloc] at hY
  have HY := hidIt hY
  have HB := hidIt (hg1.trans (Below.mono hg2 hg1.size))
  clear hu hv hm hg1 hg2 hY
  go_enter Tryz.func63, Tryz.ntmps63
  go_upto_region 1 with (fail)
  generalize ((w.alloc (.cells #[.slice (some ⟨g, 0, none⟩) 1 c, .slice none 0 0, .slice none 0 0] 123)).alloc (.cells #[.slice (some ⟨g', 0, none⟩) 1 c', .slice none 0 0, .slice none 0 0] 123)) = w1 at *
  have x0 : w1.cell? ⟨w.heap.size, 0, none⟩ = some (.slice (some ⟨g, 0, none⟩) 1 c) := by simp [World.cell?, HX.out]
  have x2 : w1.cell? ⟨w.heap.size, 2, none⟩ = some (.slice none 0 0) := by simp [World.cell?, HX.out]
  have y0 : w1.cell? ⟨w.heap.size + 1, 0, none⟩ = some (.slice (some ⟨g', 0, none⟩) 1 c') := by simp [World.cell?, HY.out]
  have y2 : w1.cell? ⟨w.heap.size + 1, 2, none⟩ = some (.slice none 0 0) := by simp [World.cell?, HY.out]
  have lx := lt_of_block HX.out
  have ly := lt_of_block HY.out
  go_wp2_with fail
  refine (bothEmpty_any none none 0 0 0 0 _).mono ?_
  rintro e w2 ⟨rfl, rfl⟩
  rw [show (decide ((0 : Nat) = 0) && decide ((0 : Nat) = 0)) = true from rfl]
  go_wp2_with fail
  refine (less1_one _ _ _ _ y z m _ HU.out HV.out HM.out).mono ?_
  rintro e w2 ⟨rfl, rfl⟩
  go_wp2_with fail
  go_ret
  exact ⟨rfl, HB.out⟩
end Go.Proofs.YtplkkkkcmfgkfaaGreat
