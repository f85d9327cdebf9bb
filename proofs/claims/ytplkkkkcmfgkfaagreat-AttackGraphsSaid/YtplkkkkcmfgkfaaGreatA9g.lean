/- The ranks of the rules of the chapter's two arguments: none. -/
import Derived.Test.YtplkkkkcmfgkfaaGreatA9f
import Derived.BigRegion
import Derived.StillTailTactics
import Derived.Deep.RegionWith
namespace Go.Proofs.YtplkkkkcmfgkfaaGreat
set_option linter.unusedVariables false
set_option linter.unusedSimpArgs false
open Go Go.RowKit Go.Sort

set_option maxHeartbeats 1000000 in
theorem defeasible_leaf (i : Int) (hi : i = 0 ∨ i = 1) (pa : Option Addr) (pc g c : Nat) (w : World) (h : CR w g argC) :
    Calls Tryz.prog 106 #[.agg #[.slice pa 2 pc, .slice none 0 0, .slice none 0 0], .slice (some ⟨g, 0, none⟩) 2 c, .int .i64 i] w fun e w' => e = .returned (.slice none 0 0) ∧ Below w.heap.size w w' := by
  have hgr := bgrow w (.cells #[.slice pa 2 pc, .slice none 0 0, .slice none 0 0] 58)
  have HB := hidIt hgr
  have H1 := hidIt (h.go hgr)
  have HX := hidIt (heap_alloc_new w (.cells #[.slice pa 2 pc, .slice none 0 0, .slice none 0 0] 58))
  have HLE : Hid (w.heap.size ≤ (w.alloc (.cells #[.slice pa 2 pc, .slice none 0 0, .slice none 0 0] 58)).heap.size) := hgr.size
  clear hgr h
  go_enter Tryz.func106, Tryz.ntmps106
  go_upto_region 1 with (fail)
  generalize (w.alloc (.cells #[.slice pa 2 pc, .slice none 0 0, .slice none 0 0] 58)) = w1 at *
  have x0 : w1.cell? ⟨w.heap.size, 0, none⟩ = some (.slice pa 2 pc) := by simp [World.cell?, HX.out]
  have x1 : w1.cell? ⟨w.heap.size, 1, none⟩ = some (.slice none 0 0) := by simp [World.cell?, HX.out]
  have x2 : w1.cell? ⟨w.heap.size, 2, none⟩ = some (.slice none 0 0) := by simp [World.cell?, HX.out]
  have lx := lt_of_block HX.out
  go_region_with (first | (go_at_call 28; refine (subs_leaf i hi g c _ (H1.out.go (RowKit.Below.drew (RowKit.Below.refl w1.heap.size w1)))).mono ?_; rintro e w2 ⟨v, rfl, ho, hb⟩; have HO := hidIt ho; clear ho; obtain ⟨gv, cv, hvv, -, -, -⟩ := HO.out.slice; subst hvv; have hb := RowKit.Below.trans (RowKit.Below.drew (RowKit.Below.refl w1.heap.size w1)) hb; have HB2 := hidIt (HB.out.trans (Below.mono hb HLE.out)); have HL2 : Hid (w.heap.size ≤ w2.heap.size) := Nat.le_trans HLE.out hb.size; have H2 := hidIt (H1.out.go hb); have HX2 := hidIt (blk_kept2 HX.out hb); clear hb x0 x1 x2 lx; have x0 : w2.cell? ⟨w.heap.size, 0, none⟩ = some (.slice pa 2 pc) := (by simp [World.cell?, HX2.out]); have x1 : w2.cell? ⟨w.heap.size, 1, none⟩ = some (.slice none 0 0) := (by simp [World.cell?, HX2.out]); have x2 : w2.cell? ⟨w.heap.size, 2, none⟩ = some (.slice none 0 0) := (by simp [World.cell?, HX2.out]); have lx := lt_of_block HX2.out) | (go_at_call 111; refine (tops_leaf i hi pa pc g c _ _ _ HO.out H2.out).mono ?_; rintro e w3 ⟨rfl, hb⟩; have HB3 := hidIt (HB2.out.trans (Below.mono hb HL2.out)); clear hb))
  all_goals (try go_wp2_with fail)
  all_goals (try go_ret)
  all_goals exact ⟨rfl, HB3.out⟩

set_option maxHeartbeats 1000000 in
theorem last_leaf (i : Int) (hi : i = 0 ∨ i = 1) (pa : Option Addr) (pc g c : Nat) (w : World) (h : CR w g argC) :
    Calls Tryz.prog 107 #[.agg #[.slice pa 2 pc, .slice none 0 0, .slice none 0 0], .slice (some ⟨g, 0, none⟩) 2 c, .int .i64 i] w fun e w' => e = .returned (.slice none 0 0) ∧ Below w.heap.size w w' := by
  have hgr := bgrow w (.cells #[.slice pa 2 pc, .slice none 0 0, .slice none 0 0] 58)
  have HB := hidIt hgr
  have H1 := hidIt (h.go hgr)
  have HX := hidIt (heap_alloc_new w (.cells #[.slice pa 2 pc, .slice none 0 0, .slice none 0 0] 58))
  have HLE : Hid (w.heap.size ≤ (w.alloc (.cells #[.slice pa 2 pc, .slice none 0 0, .slice none 0 0] 58)).heap.size) := hgr.size
  clear hgr h
  go_enter Tryz.func107, Tryz.ntmps107
  go_upto_region 1 with (fail)
  generalize (w.alloc (.cells #[.slice pa 2 pc, .slice none 0 0, .slice none 0 0] 58)) = w1 at *
  have x0 : w1.cell? ⟨w.heap.size, 0, none⟩ = some (.slice pa 2 pc) := by simp [World.cell?, HX.out]
  have x1 : w1.cell? ⟨w.heap.size, 1, none⟩ = some (.slice none 0 0) := by simp [World.cell?, HX.out]
  have x2 : w1.cell? ⟨w.heap.size, 2, none⟩ = some (.slice none 0 0) := by simp [World.cell?, HX.out]
  have lx := lt_of_block HX.out
  go_region_with (first | (go_at_call 112; refine (runOf_leaf i hi pa pc g c _ (H1.out.go (RowKit.Below.drew (RowKit.Below.refl w1.heap.size w1)))).mono ?_; rintro e w2 ⟨v, rfl, ho, hb⟩; have HO := hidIt ho; clear ho; obtain ⟨gv, cv, hvv, -, -, -⟩ := HO.out.slice; subst hvv; have hb := RowKit.Below.trans (RowKit.Below.drew (RowKit.Below.refl w1.heap.size w1)) hb; have HB2 := hidIt (HB.out.trans (Below.mono hb HLE.out)); have HL2 : Hid (w.heap.size ≤ w2.heap.size) := Nat.le_trans HLE.out hb.size; have H2 := hidIt (H1.out.go hb); have HX2 := hidIt (blk_kept2 HX.out hb); clear hb x0 x1 x2 lx; have x0 : w2.cell? ⟨w.heap.size, 0, none⟩ = some (.slice pa 2 pc) := (by simp [World.cell?, HX2.out]); have x1 : w2.cell? ⟨w.heap.size, 1, none⟩ = some (.slice none 0 0) := (by simp [World.cell?, HX2.out]); have x2 : w2.cell? ⟨w.heap.size, 2, none⟩ = some (.slice none 0 0) := (by simp [World.cell?, HX2.out]); have lx := lt_of_block HX2.out) | (go_at_call 111; refine (tops_leaf i hi pa pc g c _ _ _ HO.out H2.out).mono ?_; rintro e w3 ⟨rfl, hb⟩; have HB3 := hidIt (HB2.out.trans (Below.mono hb HL2.out)); clear hb))
  all_goals (try go_wp2_with fail)
  all_goals (try go_ret)
  all_goals exact ⟨rfl, HB3.out⟩

set_option maxHeartbeats 1000000 in
theorem ruleRanks_leaf (i : Int) (hi : i = 0 ∨ i = 1) (pa : Option Addr) (pc g c : Nat) (w : World) (h : CR w g argC) :
    Calls Tryz.prog 96 #[.agg #[.slice pa 2 pc, .slice none 0 0, .slice none 0 0], .slice (some ⟨g, 0, none⟩) 2 c, .int .i64 i] w fun e w' => e = .returned (.slice none 0 0) ∧ Below w.heap.size w w' := by
  have hgr := bgrow w (.cells #[.slice pa 2 pc, .slice none 0 0, .slice none 0 0] 58)
  have HB := hidIt hgr
  have H1 := hidIt (h.go hgr)
  have HX := hidIt (heap_alloc_new w (.cells #[.slice pa 2 pc, .slice none 0 0, .slice none 0 0] 58))
  have HLE : Hid (w.heap.size ≤ (w.alloc (.cells #[.slice pa 2 pc, .slice none 0 0, .slice none 0 0] 58)).heap.size) := hgr.size
  clear hgr h
  go_enter Tryz.func96, Tryz.ntmps96
  go_upto_region 1 with (fail)
  generalize (w.alloc (.cells #[.slice pa 2 pc, .slice none 0 0, .slice none 0 0] 58)) = w1 at *
  have x0 : w1.cell? ⟨w.heap.size, 0, none⟩ = some (.slice pa 2 pc) := by simp [World.cell?, HX.out]
  have x1 : w1.cell? ⟨w.heap.size, 1, none⟩ = some (.slice none 0 0) := by simp [World.cell?, HX.out]
  have x2 : w1.cell? ⟨w.heap.size, 2, none⟩ = some (.slice none 0 0) := by simp [World.cell?, HX.out]
  have lx := lt_of_block HX.out
  go_region_with (first | (go_at_call 106; refine (defeasible_leaf i hi pa pc g c _ (H1.out.go (RowKit.Below.drew (RowKit.Below.refl w1.heap.size w1)))).mono ?_; rintro e w2 ⟨rfl, hb⟩; have hb := RowKit.Below.trans (RowKit.Below.drew (RowKit.Below.refl w1.heap.size w1)) hb; have HB2 := hidIt (HB.out.trans (Below.mono hb HLE.out)); have HL2 : Hid (w.heap.size ≤ w2.heap.size) := Nat.le_trans HLE.out hb.size; have H2 := hidIt (H1.out.go hb); have HX2 := hidIt (blk_kept2 HX.out hb); clear hb x0 x1 x2 lx; have x0 : w2.cell? ⟨w.heap.size, 0, none⟩ = some (.slice pa 2 pc) := (by simp [World.cell?, HX2.out]); have x1 : w2.cell? ⟨w.heap.size, 1, none⟩ = some (.slice none 0 0) := (by simp [World.cell?, HX2.out]); have x2 : w2.cell? ⟨w.heap.size, 2, none⟩ = some (.slice none 0 0) := (by simp [World.cell?, HX2.out]); have lx := lt_of_block HX2.out) | (go_at_call 105; refine (ranksOf_nil pa pc _).mono ?_; rintro e w3 ⟨rfl, hb⟩; have HB3 := hidIt (HB2.out.trans (Below.mono hb HL2.out)); clear hb))
  all_goals (try go_wp2_with fail)
  all_goals (try go_ret)
  all_goals exact ⟨rfl, HB3.out⟩

set_option maxHeartbeats 1000000 in
theorem lastRanks_leaf (i : Int) (hi : i = 0 ∨ i = 1) (pa : Option Addr) (pc g c : Nat) (w : World) (h : CR w g argC) :
    Calls Tryz.prog 97 #[.agg #[.slice pa 2 pc, .slice none 0 0, .slice none 0 0], .slice (some ⟨g, 0, none⟩) 2 c, .int .i64 i] w fun e w' => e = .returned (.slice none 0 0) ∧ Below w.heap.size w w' := by
  have hgr := bgrow w (.cells #[.slice pa 2 pc, .slice none 0 0, .slice none 0 0] 58)
  have HB := hidIt hgr
  have H1 := hidIt (h.go hgr)
  have HX := hidIt (heap_alloc_new w (.cells #[.slice pa 2 pc, .slice none 0 0, .slice none 0 0] 58))
  have HLE : Hid (w.heap.size ≤ (w.alloc (.cells #[.slice pa 2 pc, .slice none 0 0, .slice none 0 0] 58)).heap.size) := hgr.size
  clear hgr h
  go_enter Tryz.func97, Tryz.ntmps97
  go_upto_region 1 with (fail)
  generalize (w.alloc (.cells #[.slice pa 2 pc, .slice none 0 0, .slice none 0 0] 58)) = w1 at *
  have x0 : w1.cell? ⟨w.heap.size, 0, none⟩ = some (.slice pa 2 pc) := by simp [World.cell?, HX.out]
  have x1 : w1.cell? ⟨w.heap.size, 1, none⟩ = some (.slice none 0 0) := by simp [World.cell?, HX.out]
  have x2 : w1.cell? ⟨w.heap.size, 2, none⟩ = some (.slice none 0 0) := by simp [World.cell?, HX.out]
  have lx := lt_of_block HX.out
  go_region_with (first | (go_at_call 107; refine (last_leaf i hi pa pc g c _ (H1.out.go (RowKit.Below.drew (RowKit.Below.refl w1.heap.size w1)))).mono ?_; rintro e w2 ⟨rfl, hb⟩; have hb := RowKit.Below.trans (RowKit.Below.drew (RowKit.Below.refl w1.heap.size w1)) hb; have HB2 := hidIt (HB.out.trans (Below.mono hb HLE.out)); have HL2 : Hid (w.heap.size ≤ w2.heap.size) := Nat.le_trans HLE.out hb.size; have H2 := hidIt (H1.out.go hb); have HX2 := hidIt (blk_kept2 HX.out hb); clear hb x0 x1 x2 lx; have x0 : w2.cell? ⟨w.heap.size, 0, none⟩ = some (.slice pa 2 pc) := (by simp [World.cell?, HX2.out]); have x1 : w2.cell? ⟨w.heap.size, 1, none⟩ = some (.slice none 0 0) := (by simp [World.cell?, HX2.out]); have x2 : w2.cell? ⟨w.heap.size, 2, none⟩ = some (.slice none 0 0) := (by simp [World.cell?, HX2.out]); have lx := lt_of_block HX2.out) | (go_at_call 105; refine (ranksOf_nil pa pc _).mono ?_; rintro e w3 ⟨rfl, hb⟩; have HB3 := hidIt (HB2.out.trans (Below.mono hb HL2.out)); clear hb))
  all_goals (try go_wp2_with fail)
  all_goals (try go_ret)
  all_goals exact ⟨rfl, HB3.out⟩
end Go.Proofs.YtplkkkkcmfgkfaaGreat
