/- What the links compare of the chapter's two arguments. -/
import Derived.Test.YtplkkkkcmfgkfaaGreatA9c
import Derived.Test.YtplkkkkcmfgkfaaGreatA9d
namespace Go.Proofs.YtplkkkkcmfgkfaaGreat
set_option linter.unusedVariables false
set_option linter.unusedSimpArgs false
open Go Go.RowKit Go.Sort

theorem tops_leaf (i : Int) (hi : i = 0 ∨ i = 1) (pa : Option Addr) (pc g c : Nat) (v : Value) (B : Nat) (w : World) (hv : Own1 w B v i) (h : CR w g argC) :
    Calls Tryz.prog 111 #[.agg #[.slice pa 2 pc, .slice none 0 0, .slice none 0 0], .slice (some ⟨g, 0, none⟩) 2 c, v] w fun e w' => e = .returned (.slice none 0 0) ∧ Below w.heap.size w w' := by
  obtain ⟨gv, cv, rfl, -, -, -⟩ := hv.slice
  have hgr := bgrow w (.cells #[.slice pa 2 pc, .slice none 0 0, .slice none 0 0] 58)
  have HB := hidIt hgr
  have HV := hidIt (hv.go hgr)
  have H1 := hidIt (h.go hgr)
  have HX := hidIt (heap_alloc_new w (.cells #[.slice pa 2 pc, .slice none 0 0, .slice none 0 0] 58))
  clear hgr h hv
  go_enter Tryz.func111, Tryz.ntmps111
  go_upto_region 1 with (fail)
  generalize (w.alloc (.cells #[.slice pa 2 pc, .slice none 0 0, .slice none 0 0] 58)) = w1 at *
  have x1 : w1.cell? ⟨w.heap.size, 1, none⟩ = some (.slice none 0 0) := by simp [World.cell?, HX.out]
  have lx := lt_of_block HX.out
  obtain ⟨gv', cv', hvv, -, lv, v0⟩ := HV.out.slice
  have la := H1.out.1
  injection hvv with e1 e2 e3
  injection e1 with e1
  injection e1 with e1 e4 e5
  subst e1
  rcases hi with rfl | rfl
  · have a1 := H1.out.at_ 1 _ rfl
    go_wp2_with fail
    refine wp_loop_rounds 2 ?_
    rw [rounds_succ]
    go_wp2_with fail
    refine (arIdx_any (-1) 0 _).mono ?_
    rintro e w2 ⟨rfl, rfl⟩
    rw [show ixB (-1) 0 = false from rfl]
    go_wp2_with fail
    rw [rounds_succ]
    go_wp2_with fail
    refine (srtI_nil _).mono ?_
    rintro e w3 ⟨rfl, rfl⟩
    go_wp2_with fail
    refine (cmpctI_nil _).mono ?_
    rintro e w4 ⟨rfl, rfl⟩
    go_wp2_with fail
    go_ret
    exact ⟨rfl, HB.out⟩
  · have a1 := H1.out.at_ 6 _ rfl
    go_wp2_with fail
    refine wp_loop_rounds 2 ?_
    rw [rounds_succ]
    go_wp2_with fail
    refine (arIdx_any (-1) 0 _).mono ?_
    rintro e w2 ⟨rfl, rfl⟩
    rw [show ixB (-1) 0 = false from rfl]
    go_wp2_with fail
    rw [rounds_succ]
    go_wp2_with fail
    refine (srtI_nil _).mono ?_
    rintro e w3 ⟨rfl, rfl⟩
    go_wp2_with fail
    refine (cmpctI_nil _).mono ?_
    rintro e w4 ⟨rfl, rfl⟩
    go_wp2_with fail
    go_ret
    exact ⟨rfl, HB.out⟩

theorem ranksOf_nil (pa : Option Addr) (pc : Nat) (w : World) :
    Calls Tryz.prog 105 #[.agg #[.slice pa 2 pc, .slice none 0 0, .slice none 0 0], .slice none 0 0] w fun e w' => e = .returned (.slice none 0 0) ∧ Below w.heap.size w w' := by
  have HB := hidIt (bgrow w (.cells #[.slice pa 2 pc, .slice none 0 0, .slice none 0 0] 58))
  go_enter Tryz.func105, Tryz.ntmps105
  go_wp2_with fail
  refine wp_loop_rounds 1 ?_
  rw [rounds_succ]
  go_wp2_with fail
  go_ret
  exact ⟨rfl, HB.out⟩

theorem runOf_leaf (i : Int) (hi : i = 0 ∨ i = 1) (pa : Option Addr) (pc g c : Nat) (w : World) (h : CR w g argC) :
    Calls Tryz.prog 112 #[.agg #[.slice pa 2 pc, .slice none 0 0, .slice none 0 0], .slice (some ⟨g, 0, none⟩) 2 c, .int .i64 i] w fun e w' => ∃ v, e = .returned v ∧ Own1 w' w.heap.size v i ∧ Below w.heap.size w w' := by
  have hgr := bgrow w (.cells #[.slice pa 2 pc, .slice none 0 0, .slice none 0 0] 58)
  have HB := hidIt hgr
  have H1 := hidIt (h.go hgr)
  have HX := hidIt (CR.new w [.slice pa 2 pc, .slice none 0 0, .slice none 0 0] 58)
  have HLE : Hid (w.heap.size ≤ (w.alloc (.cells #[.slice pa 2 pc, .slice none 0 0, .slice none 0 0] 58)).heap.size) := hgr.size
  rw [show ([Value.slice pa 2 pc, .slice none 0 0, .slice none 0 0].toArray : Array Value) = #[.slice pa 2 pc, .slice none 0 0, .slice none 0 0] from rfl] at HX
  clear hgr h
  rcases hi with rfl | rfl
  · go_enter Tryz.func112, Tryz.ntmps112
    go_upto_region 1 with (fail)
    generalize (w.alloc (.cells #[.slice pa 2 pc, .slice none 0 0, .slice none 0 0] 58)) = w1 at *
    go_wp2_with fail
    refine (reachR0 g c _ pa pc _ H1.out HX.out).mono ?_
    rintro e w2 ⟨v, rfl, ho, hb⟩
    have HO := hidIt ho
    have HB2 := hidIt (HB.out.trans (Below.mono hb HLE.out))
    clear ho hb
    go_wp2_with fail
    go_ret
    exact ⟨_, rfl, HO.out.low HLE.out, HB2.out⟩
  · go_enter Tryz.func112, Tryz.ntmps112
    go_upto_region 1 with (fail)
    generalize (w.alloc (.cells #[.slice pa 2 pc, .slice none 0 0, .slice none 0 0] 58)) = w1 at *
    go_wp2_with fail
    refine (reachR1 g c _ pa pc _ H1.out HX.out).mono ?_
    rintro e w2 ⟨v, rfl, ho, hb⟩
    have HO := hidIt ho
    have HB2 := hidIt (HB.out.trans (Below.mono hb HLE.out))
    clear ho hb
    go_wp2_with fail
    go_ret
    exact ⟨_, rfl, HO.out.low HLE.out, HB2.out⟩
end Go.Proofs.YtplkkkkcmfgkfaaGreat
