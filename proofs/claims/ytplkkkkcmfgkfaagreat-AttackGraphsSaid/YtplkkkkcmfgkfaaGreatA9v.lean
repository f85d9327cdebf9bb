/- The reference's Validate and Build at the base of the chapter's two premises. -/
import Derived.Test.YtplkkkkcmfgkfaaGreatA9b
namespace Go.Proofs.YtplkkkkcmfgkfaaGreat
set_option linter.unusedVariables false
set_option linter.unusedSimpArgs false
open Go Go.RowKit Go.Sort

theorem rname_p (w : World) : Calls Tryz.prog 74 #[.string ⟨#[112]⟩] w fun e w' => e = .returned (.bool true) ∧ w' = w := by
  go_enter Tryz.func74, Tryz.ntmps74
  go_wp2_with fail
  refine wp_loop_rounds 2 ?_
  rw [rounds_succ]
  go_wp2_with fail
  rw [rounds_succ]
  go_wp2_with fail
  go_ret
  exact ⟨rfl, rfl⟩

theorem rvalid_p (g : Bool) (w : World) : Calls Tryz.prog 52 #[.agg #[.bool g, .string ⟨#[112]⟩]] w fun e w' => e = .returned (.bool true) ∧ Below w.heap.size w w' := by
  have HB := hidIt (bgrow w (.cells #[.bool g, .string ⟨#[112]⟩] 51))
  go_enter Tryz.func52, Tryz.ntmps52
  go_wp2_with fail
  refine (rname_p _).mono ?_
  rintro e w1 ⟨rfl, rfl⟩
  go_wp2_with fail
  go_ret
  exact ⟨rfl, HB.out⟩

theorem rrank_ok (n : Int) (h0 : 0 ≤ n) (h9 : n ≤ 9) (w : World) : Calls Tryz.prog 51 #[.int .i64 n] w fun e w' => e = .returned (.bool true) ∧ w' = w := by
  go_enter Tryz.func51, Tryz.ntmps51
  go_wp2_with fail
  go_ret
  exact ⟨rfl, rfl⟩

set_option maxHeartbeats 1000000 in
theorem rpremise_ok (g : Bool) (n : Int) (h0 : 0 ≤ n) (h9 : n ≤ 9) (w : World) : Calls Tryz.prog 47 #[.agg #[.bool g, .string ⟨#[112]⟩, .int .i64 2, .int .i64 n, .string ⟨#[]⟩]] w fun e w' => e = .returned (.int .i64 0) ∧ Below w.heap.size w w' := by
  have HB := hidIt (bgrow w (.cells #[.bool g, .string ⟨#[112]⟩, .int .i64 2, .int .i64 n, .string ⟨#[]⟩] 53))
  have HX := hidIt (heap_alloc_new w (.cells #[.bool g, .string ⟨#[112]⟩, .int .i64 2, .int .i64 n, .string ⟨#[]⟩] 53))
  have HLE : Hid (w.heap.size ≤ (w.alloc (.cells #[.bool g, .string ⟨#[112]⟩, .int .i64 2, .int .i64 n, .string ⟨#[]⟩] 53)).heap.size) := (bgrow w _).size
  go_enter Tryz.func47, Tryz.ntmps47
  go_upto_region 1 with (fail)
  generalize (w.alloc (.cells #[.bool g, .string ⟨#[112]⟩, .int .i64 2, .int .i64 n, .string ⟨#[]⟩] 53)) = w1 at *
  have x0 : w1.cell? ⟨w.heap.size, 0, none⟩ = some (.bool g) := by simp [World.cell?, HX.out]
  have x1 : w1.cell? ⟨w.heap.size, 1, none⟩ = some (.string ⟨#[112]⟩) := by simp [World.cell?, HX.out]
  have x2 : w1.cell? ⟨w.heap.size, 2, none⟩ = some (.int .i64 2) := by simp [World.cell?, HX.out]
  have lx := lt_of_block HX.out
  go_wp2_with fail
  refine (rvalid_p g _).mono ?_
  rintro e w2 ⟨rfl, hb⟩
  have HX2 := hidIt (blk_kept2 HX.out hb)
  have HB2 := hidIt (HB.out.trans (Below.mono hb HLE.out))
  clear hb x0 x1 x2 lx
  have x2 : w2.cell? ⟨w.heap.size, 2, none⟩ = some (.int .i64 2) := by simp [World.cell?, HX2.out]
  have x3 : w2.cell? ⟨w.heap.size, 3, none⟩ = some (.int .i64 n) := by simp [World.cell?, HX2.out]
  have x4 : w2.cell? ⟨w.heap.size, 4, none⟩ = some (.string ⟨#[]⟩) := by simp [World.cell?, HX2.out]
  have lx := lt_of_block HX2.out
  go_wp2_with fail
  refine (rrank_ok n h0 h9 _).mono ?_
  rintro e w3 ⟨rfl, rfl⟩
  go_wp2_with fail
  go_ret
  exact ⟨rfl, HB2.out⟩


theorem lit9Struct : Tryz.prog.underlying 51 = some (.struct (Tryz.prog.fieldsOf 51)) := by kernel_rfl
theorem lit9Stood : Tryz.prog.stoodInHeld 51 = false := by kernel_rfl
theorem lit9Guard : Tryz.prog.eqGuardType Tryz.prog.depth 51 = false := by kernel_rfl
theorem eqLitP (g g' : Bool) (w : World) : (Op.equalIn 10000 51 (.agg #[.bool g, .string ⟨#[112]⟩]) (.agg #[.bool g', .string ⟨#[112]⟩])).run Tryz.prog w = .ok (g == g') w := by
  have u4 := Tryz.underlying4
  have u9 := Tryz.underlying9
  rw [show (10000 : Nat) = 9999 + 1 from rfl, run_equalIn_agg w 9999 51 _ _ lit9Struct lit9Stood]
  simp only [Program.fieldsOf, Tryz.underlying51]
  go_simp
  all_goals (cases g <;> cases g' <;> simp)
theorem gdLit (op : BinOp) (x y : Operand) (g g' : Bool) (w : World) : (eqGuard op 51 x y (.agg #[.bool g, .string ⟨#[112]⟩]) (.agg #[.bool g', .string ⟨#[112]⟩])).run Tryz.prog w = .ok () w := run_eqGuard_agg w op 51 x y _ _ lit9Guard

/-- Where a literal stands among the two premises. -/
theorem rfind_p (i : Int) (hi : i = 0 ∨ i = 1) (pb pc : Nat) (w : World) (hp : CR w pb premC) :
    Calls Tryz.prog 48 #[.agg #[.slice (some ⟨pb, 0, none⟩) 2 pc, .slice none 0 0, .slice none 0 0], .agg #[.bool (decide (i = 1)), .string ⟨#[112]⟩]] w fun e w' => e = .returned (.int .i64 i) ∧ Below w.heap.size w w' := by
  have hg1 := bgrow w (.cells #[.slice (some ⟨pb, 0, none⟩) 2 pc, .slice none 0 0, .slice none 0 0] 58)
  have hg2 := bgrow (w.alloc (.cells #[.slice (some ⟨pb, 0, none⟩) 2 pc, .slice none 0 0, .slice none 0 0] 58)) (.cells #[.bool (decide (i = 1)), .string ⟨#[112]⟩] 51)
  have HP := hidIt ((hp.go hg1).go hg2)
  have HX := hidIt (blk_kept2 (heap_alloc_new w (.cells #[.slice (some ⟨pb, 0, none⟩) 2 pc, .slice none 0 0, .slice none 0 0] 58)) hg2)
  have hY := heap_alloc_new (w.alloc (.cells #[.slice (some ⟨pb, 0, none⟩) 2 pc, .slice none 0 0, .slice none 0 0] 58)) (.cells #[.bool (decide (i = 1)), .string ⟨#[112]⟩] 51)
  rw [World.size_alloc] at hY
  have HY := hidIt hY
  have HB := hidIt (hg1.trans (Below.mono hg2 hg1.size))
  clear hp hg1 hg2 hY
  rcases hi with rfl | rfl
  · rw [show decide ((0 : Int) = 1) = false from rfl] at *
    go_enter Tryz.func48, Tryz.ntmps48
    go_upto_region 1 with (fail)
    generalize ((w.alloc (.cells #[.slice (some ⟨pb, 0, none⟩) 2 pc, .slice none 0 0, .slice none 0 0] 58)).alloc (.cells #[.bool false, .string ⟨#[112]⟩] 51)) = w1 at *
    have x0 : w1.cell? ⟨w.heap.size, 0, none⟩ = some (.slice (some ⟨pb, 0, none⟩) 2 pc) := by simp [World.cell?, HX.out]
    have y0 : w1.cell? ⟨w.heap.size + 1, 0, none⟩ = some (.bool false) := by simp [World.cell?, HY.out]
    have y1 : w1.cell? ⟨w.heap.size + 1, 1, none⟩ = some (.string ⟨#[112]⟩) := by simp [World.cell?, HY.out]
    have p0 := HP.out.at_ 0 _ rfl
    have p1 := HP.out.at_ 1 _ rfl
    have lx := lt_of_block HX.out
    have ly := lt_of_block HY.out
    have lp := HP.out.1
    have hq := fun w => eqLitP false false w
    have hq1 := fun w => eqLitP true true w
    have hgd := fun (op : BinOp) (a b : Operand) (w : World) => gdLit op a b false false w
    have hgd1 := fun (op : BinOp) (a b : Operand) (w : World) => gdLit op a b true true w
    go_wp2_with fail
    refine wp_loop_rounds 1 ?_
    rw [rounds_succ]
    go_wp2_with fail
    go_quiet (fail)
    go_wp2_with fail
    go_ret
    exact ⟨rfl, by first | exact HB.out | exact (RowKit.Below.drew HB.out) | exact (RowKit.Below.drew (RowKit.Below.drew HB.out)) | (have h := HB.out; exact ⟨h.os, h.tape, h.output, h.size, h.block⟩)⟩
  · rw [show decide ((1 : Int) = 1) = true from rfl] at *
    go_enter Tryz.func48, Tryz.ntmps48
    go_upto_region 1 with (fail)
    generalize ((w.alloc (.cells #[.slice (some ⟨pb, 0, none⟩) 2 pc, .slice none 0 0, .slice none 0 0] 58)).alloc (.cells #[.bool true, .string ⟨#[112]⟩] 51)) = w1 at *
    have x0 : w1.cell? ⟨w.heap.size, 0, none⟩ = some (.slice (some ⟨pb, 0, none⟩) 2 pc) := by simp [World.cell?, HX.out]
    have y0 : w1.cell? ⟨w.heap.size + 1, 0, none⟩ = some (.bool true) := by simp [World.cell?, HY.out]
    have y1 : w1.cell? ⟨w.heap.size + 1, 1, none⟩ = some (.string ⟨#[112]⟩) := by simp [World.cell?, HY.out]
    have p0 := HP.out.at_ 0 _ rfl
    have p1 := HP.out.at_ 1 _ rfl
    have p5 := HP.out.at_ 5 _ rfl
    have p6 := HP.out.at_ 6 _ rfl
    have lx := lt_of_block HX.out
    have ly := lt_of_block HY.out
    have lp := HP.out.1
    have hq := fun w => eqLitP false true w
    have hq1 := fun w => eqLitP true true w
    have hgd := fun (op : BinOp) (a b : Operand) (w : World) => gdLit op a b false true w
    have hgd1 := fun (op : BinOp) (a b : Operand) (w : World) => gdLit op a b true true w
    go_wp2_with fail
    refine wp_loop_rounds 2 ?_
    rw [rounds_succ]
    go_wp2_with fail
    go_quiet (fail)
    go_wp2_with fail
    rw [rounds_succ]
    go_wp2_with fail
    go_quiet (fail)
    go_wp2_with fail
    go_ret
    exact ⟨rfl, by first | exact HB.out | exact (RowKit.Below.drew HB.out) | exact (RowKit.Below.drew (RowKit.Below.drew HB.out)) | (have h := HB.out; exact ⟨h.os, h.tape, h.output, h.size, h.block⟩)⟩
end Go.Proofs.YtplkkkkcmfgkfaaGreat
