/- The weaknesses of the chapter's two arguments, and the attacks on them. -/
import Derived.Test.YtplkkkkcmfgkfaaGreatA9v
namespace Go.Proofs.YtplkkkkcmfgkfaaGreat
set_option linter.unusedVariables false
set_option linter.unusedSimpArgs false
open Go Go.RowKit Go.Sort

theorem base3x {w : World} {P : Nat} {u v x : Value} {t : TypeId} (h : w.heap[P]? = some (.cells #[u, v, x] t (0, 0))) : w.cell? ⟨P, 0, none⟩ = some u ∧ w.cell? ⟨P, 1, none⟩ = some v ∧ w.cell? ⟨P, 2, none⟩ = some x := by
  refine ⟨?_, ?_, ?_⟩ <;> simp [World.cell?, h]

theorem compl_p (g : Bool) (w : World) : Calls Tryz.prog 59 #[.agg #[.bool g, .string ⟨#[112]⟩]] w fun e w' => e = .returned (.agg #[.bool (!g), .string ⟨#[112]⟩]) ∧ Below w.heap.size w w' := by
  have hg1 := bgrow w (.cells #[.bool g, .string ⟨#[112]⟩] 51)
  have hg2 := bgrow (w.alloc (.cells #[.bool g, .string ⟨#[112]⟩] 51)) (.cells #[.bool false, .string ⟨#[]⟩] 51)
  have HX := hidIt (blk_kept2 (heap_alloc_new w (.cells #[.bool g, .string ⟨#[112]⟩] 51)) hg2)
  have hY := heap_alloc_new (w.alloc (.cells #[.bool g, .string ⟨#[112]⟩] 51)) (.cells #[.bool false, .string ⟨#[]⟩] 51)
  rw [World.size_alloc] at hY
  have HY := hidIt hY
  have HB := hidIt (hg1.trans (Below.mono hg2 hg1.size))
  clear hg1 hg2 hY
  go_enter Tryz.func59, Tryz.ntmps59
  go_upto_region 1 with (fail)
  generalize ((w.alloc (.cells #[.bool g, .string ⟨#[112]⟩] 51)).alloc (.cells #[.bool false, .string ⟨#[]⟩] 51)) = w1 at *
  have x0 := cell_two0 HX.out
  have x1 := cell_two1 HX.out
  have lx := lt_of_block HX.out
  have z0 := cell_two0 HY.out
  have z1 := cell_two1 HY.out
  have lz := lt_of_block HY.out
  have f0 := free_any HY.out 0
  have f1 := free_any HY.out 1
  go_wp2_with fail
  refine bodyPost_ret (v := .agg #[.bool (!g), .string ⟨#[112]⟩]) (by simp [results, Tryz.results59, go_sem, z0, z1, lz]) rfl ?_
  exact ⟨rfl, by repeat (first | exact HB.out | refine below_set5 ?_ (Nat.le_succ _))⟩


set_option maxRecDepth 100000 in
set_option maxHeartbeats 2000000 in
theorem weak_leaf0 (pb pc : Nat) (w : World) (hp : CR w pb premC) :
    Calls Tryz.prog 29 #[.agg #[.slice (some ⟨pb, 0, none⟩) 2 pc, .slice none 0 0, .slice none 0 0], .agg #[.int .i64 0, .int .i64 (-1), .slice none 0 0, .bool false, .string ⟨#[112]⟩]] w fun e w' => ∃ gw : Nat, e = .returned (.slice (some ⟨gw, 0, none⟩) 1 1) ∧ CR w' gw [.bool true, .string ⟨#[112]⟩, .int .i64 1] ∧ Below w.heap.size w w' := by
  have hg1 := bgrow w (.cells #[.slice (some ⟨pb, 0, none⟩) 2 pc, .slice none 0 0, .slice none 0 0] 58)
  have hg2 := bgrow (w.alloc (.cells #[.slice (some ⟨pb, 0, none⟩) 2 pc, .slice none 0 0, .slice none 0 0] 58)) (.cells #[.int .i64 0, .int .i64 (-1), .slice none 0 0, .bool false, .string ⟨#[112]⟩] 72)
  have HP := hidIt ((hp.go hg1).go hg2)
  have HX := hidIt (blk_kept2 (heap_alloc_new w (.cells #[.slice (some ⟨pb, 0, none⟩) 2 pc, .slice none 0 0, .slice none 0 0] 58)) hg2)
  have hY := heap_alloc_new (w.alloc (.cells #[.slice (some ⟨pb, 0, none⟩) 2 pc, .slice none 0 0, .slice none 0 0] 58)) (.cells #[.int .i64 0, .int .i64 (-1), .slice none 0 0, .bool false, .string ⟨#[112]⟩] 72)
  rw [World.size_alloc] at hY
  have HY := hidIt hY
  have HB := hidIt (hg1.trans (Below.mono hg2 hg1.size))
  have HLE : Hid (w.heap.size ≤ ((w.alloc (.cells #[.slice (some ⟨pb, 0, none⟩) 2 pc, .slice none 0 0, .slice none 0 0] 58)).alloc (.cells #[.int .i64 0, .int .i64 (-1), .slice none 0 0, .bool false, .string ⟨#[112]⟩] 72)).heap.size) := Nat.le_trans hg1.size hg2.size
  clear hg1 hg2 hY hp
  go_enter Tryz.func29, Tryz.ntmps29
  go_upto_region 1 with (fail)
  generalize ((w.alloc (.cells #[.slice (some ⟨pb, 0, none⟩) 2 pc, .slice none 0 0, .slice none 0 0] 58)).alloc (.cells #[.int .i64 0, .int .i64 (-1), .slice none 0 0, .bool false, .string ⟨#[112]⟩] 72)) = w1 at *
  have y3 : w1.cell? ⟨w.heap.size + 1, 3, none⟩ = some (.bool false) := by simp [World.cell?, HY.out]
  have y4 : w1.cell? ⟨w.heap.size + 1, 4, none⟩ = some (.string ⟨#[112]⟩) := by simp [World.cell?, HY.out]
  have ly := lt_of_block HY.out
  go_wp2_with fail
  refine (compl_p false _).mono ?_
  rintro e w2 ⟨rfl, hb⟩
  have hgr := bgrow w2 (.cells #[.bool true, .string ⟨#[112]⟩] 51)
  have HP3 := hidIt ((HP.out.go hb).go hgr)
  have HX3 := hidIt (blk_kept2 (blk_kept2 HX.out hb) hgr)
  have HY3 := hidIt (blk_kept2 (blk_kept2 HY.out hb) hgr)
  have HZ3 := hidIt (heap_alloc_new w2 (.cells #[.bool true, .string ⟨#[112]⟩] 51))
  have HB3 := hidIt ((HB.out.trans (Below.mono hb HLE.out)).trans (Below.mono hgr (Nat.le_trans HLE.out hb.size)))
  have HL3 : Hid (w.heap.size ≤ (w2.alloc (.cells #[.bool true, .string ⟨#[112]⟩] 51)).heap.size) := Nat.le_trans (Nat.le_trans HLE.out hb.size) hgr.size
  clear hb hgr y3 y4 ly HP HX HY HB HLE
  rw [show (!false) = true from rfl]
  go_upto_region 2 with (fail)
  generalize (w2.alloc (.cells #[.bool true, .string ⟨#[112]⟩] 51)) = w3 at *
  generalize w2.heap.size = PZ at *
  obtain ⟨x0, x1, x2⟩ := base3x HX3.out
  have lx := lt_of_block HX3.out
  have y0 : w3.cell? ⟨w.heap.size + 1, 0, none⟩ = some (.int .i64 0) := by simp [World.cell?, HY3.out]
  have y1 : w3.cell? ⟨w.heap.size + 1, 1, none⟩ = some (.int .i64 (-1)) := by simp [World.cell?, HY3.out]
  have ly := lt_of_block HY3.out
  have z0 := cell_two0 HZ3.out
  have z1 := cell_two1 HZ3.out
  have lz := lt_of_block HZ3.out
  have p2 := HP3.out.at_ 2 _ rfl
  have lp := HP3.out.1
  go_wp2_with fail
  refine (isIndex_any (-1) 0 _).mono ?_
  rintro e w4 ⟨rfl, rfl⟩
  rw [show ixB (-1) 0 = false from rfl]
  go_wp2_with fail
  refine (isIndex_any 0 2 _).mono ?_
  rintro e w5 ⟨rfl, rfl⟩
  rw [show ixB 0 2 = true from rfl]
  have HW := hidIt (CR.new w5 [.bool true, .string ⟨#[112]⟩, .int .i64 1] 116)
  have HBW := hidIt (HB3.out.trans (Below.mono (bgrow w5 (.cells #[.bool true, .string ⟨#[112]⟩, .int .i64 1] 116)) HL3.out))
  go_wp2_with fail
  go_ret
  exact ⟨_, rfl, HW.out, HBW.out⟩

set_option maxRecDepth 100000 in
set_option maxHeartbeats 2000000 in
theorem weak_leaf1 (pb pc : Nat) (w : World) (hp : CR w pb premC) :
    Calls Tryz.prog 29 #[.agg #[.slice (some ⟨pb, 0, none⟩) 2 pc, .slice none 0 0, .slice none 0 0], .agg #[.int .i64 1, .int .i64 (-1), .slice none 0 0, .bool true, .string ⟨#[112]⟩]] w fun e w' => ∃ gw : Nat, e = .returned (.slice (some ⟨gw, 0, none⟩) 1 1) ∧ CR w' gw [.bool false, .string ⟨#[112]⟩, .int .i64 1] ∧ Below w.heap.size w w' := by
  have hg1 := bgrow w (.cells #[.slice (some ⟨pb, 0, none⟩) 2 pc, .slice none 0 0, .slice none 0 0] 58)
  have hg2 := bgrow (w.alloc (.cells #[.slice (some ⟨pb, 0, none⟩) 2 pc, .slice none 0 0, .slice none 0 0] 58)) (.cells #[.int .i64 1, .int .i64 (-1), .slice none 0 0, .bool true, .string ⟨#[112]⟩] 72)
  have HP := hidIt ((hp.go hg1).go hg2)
  have HX := hidIt (blk_kept2 (heap_alloc_new w (.cells #[.slice (some ⟨pb, 0, none⟩) 2 pc, .slice none 0 0, .slice none 0 0] 58)) hg2)
  have hY := heap_alloc_new (w.alloc (.cells #[.slice (some ⟨pb, 0, none⟩) 2 pc, .slice none 0 0, .slice none 0 0] 58)) (.cells #[.int .i64 1, .int .i64 (-1), .slice none 0 0, .bool true, .string ⟨#[112]⟩] 72)
  rw [World.size_alloc] at hY
  have HY := hidIt hY
  have HB := hidIt (hg1.trans (Below.mono hg2 hg1.size))
  have HLE : Hid (w.heap.size ≤ ((w.alloc (.cells #[.slice (some ⟨pb, 0, none⟩) 2 pc, .slice none 0 0, .slice none 0 0] 58)).alloc (.cells #[.int .i64 1, .int .i64 (-1), .slice none 0 0, .bool true, .string ⟨#[112]⟩] 72)).heap.size) := Nat.le_trans hg1.size hg2.size
  clear hg1 hg2 hY hp
  go_enter Tryz.func29, Tryz.ntmps29
  go_upto_region 1 with (fail)
  generalize ((w.alloc (.cells #[.slice (some ⟨pb, 0, none⟩) 2 pc, .slice none 0 0, .slice none 0 0] 58)).alloc (.cells #[.int .i64 1, .int .i64 (-1), .slice none 0 0, .bool true, .string ⟨#[112]⟩] 72)) = w1 at *
  have y3 : w1.cell? ⟨w.heap.size + 1, 3, none⟩ = some (.bool true) := by simp [World.cell?, HY.out]
  have y4 : w1.cell? ⟨w.heap.size + 1, 4, none⟩ = some (.string ⟨#[112]⟩) := by simp [World.cell?, HY.out]
  have ly := lt_of_block HY.out
  go_wp2_with fail
  refine (compl_p true _).mono ?_
  rintro e w2 ⟨rfl, hb⟩
  have hgr := bgrow w2 (.cells #[.bool false, .string ⟨#[112]⟩] 51)
  have HP3 := hidIt ((HP.out.go hb).go hgr)
  have HX3 := hidIt (blk_kept2 (blk_kept2 HX.out hb) hgr)
  have HY3 := hidIt (blk_kept2 (blk_kept2 HY.out hb) hgr)
  have HZ3 := hidIt (heap_alloc_new w2 (.cells #[.bool false, .string ⟨#[112]⟩] 51))
  have HB3 := hidIt ((HB.out.trans (Below.mono hb HLE.out)).trans (Below.mono hgr (Nat.le_trans HLE.out hb.size)))
  have HL3 : Hid (w.heap.size ≤ (w2.alloc (.cells #[.bool false, .string ⟨#[112]⟩] 51)).heap.size) := Nat.le_trans (Nat.le_trans HLE.out hb.size) hgr.size
  clear hb hgr y3 y4 ly HP HX HY HB HLE
  rw [show (!true) = false from rfl]
  go_upto_region 2 with (fail)
  generalize (w2.alloc (.cells #[.bool false, .string ⟨#[112]⟩] 51)) = w3 at *
  generalize w2.heap.size = PZ at *
  obtain ⟨x0, x1, x2⟩ := base3x HX3.out
  have lx := lt_of_block HX3.out
  have y0 : w3.cell? ⟨w.heap.size + 1, 0, none⟩ = some (.int .i64 1) := by simp [World.cell?, HY3.out]
  have y1 : w3.cell? ⟨w.heap.size + 1, 1, none⟩ = some (.int .i64 (-1)) := by simp [World.cell?, HY3.out]
  have ly := lt_of_block HY3.out
  have z0 := cell_two0 HZ3.out
  have z1 := cell_two1 HZ3.out
  have lz := lt_of_block HZ3.out
  have p2 := HP3.out.at_ 7 _ rfl
  have lp := HP3.out.1
  go_wp2_with fail
  refine (isIndex_any (-1) 0 _).mono ?_
  rintro e w4 ⟨rfl, rfl⟩
  rw [show ixB (-1) 0 = false from rfl]
  go_wp2_with fail
  refine (isIndex_any 1 2 _).mono ?_
  rintro e w5 ⟨rfl, rfl⟩
  rw [show ixB 1 2 = true from rfl]
  have HW := hidIt (CR.new w5 [.bool false, .string ⟨#[112]⟩, .int .i64 1] 116)
  have HBW := hidIt (HB3.out.trans (Below.mono (bgrow w5 (.cells #[.bool false, .string ⟨#[112]⟩, .int .i64 1] 116)) HL3.out))
  go_wp2_with fail
  go_ret
  exact ⟨_, rfl, HW.out, HBW.out⟩
end Go.Proofs.YtplkkkkcmfgkfaaGreat
