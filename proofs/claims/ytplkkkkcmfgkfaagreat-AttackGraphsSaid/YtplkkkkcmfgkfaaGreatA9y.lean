/- The attacks on the chapter's two arguments. -/
import Derived.Test.YtplkkkkcmfgkfaaGreatA9x
namespace Go.Proofs.YtplkkkkcmfgkfaaGreat
set_option linter.unusedVariables false
set_option linter.unusedSimpArgs false
open Go Go.RowKit Go.Sort

def OwnAt (w : World) (B : Nat) (v : Value) (n : Nat) (cs : List Value) : Prop := w.ownsRow B 28 4 v n cs
theorem OwnAt.go {w w' : World} {B n : Nat} {v : Value} {cs : List Value} (h : OwnAt w B v n cs) (hb : Below w.heap.size w w') : OwnAt w' B v n cs := owns_kept h fun g e => hb.block g (owns_blk h g e).2
theorem OwnAt.low {w : World} {A B n : Nat} {v : Value} {cs : List Value} (h : OwnAt w B v n cs) (hA : A ≤ B) : OwnAt w A v n cs :=
  ⟨h.1, by
    rcases h.2 with h0 | ⟨g, cap, cur, hv, hB, hr⟩
    · exact .inl h0
    · exact .inr ⟨g, cap, cur, hv, Nat.le_trans hA hB, hr⟩⟩

set_option maxRecDepth 100000 in
set_option maxHeartbeats 2000000 in
theorem attacksAt_leaf0 (g c gw : Nat) (w : World) (h : CR w g argC) (hw : CR w gw [.bool true, .string ⟨#[112]⟩, .int .i64 1]) :
    Calls Tryz.prog 30 #[.slice (some ⟨g, 0, none⟩) 2 c, .slice (some ⟨gw, 0, none⟩) 1 1, .int .i64 0, .int .i64 0] w fun e w' => ∃ g' c' : Nat, e = .returned (.slice (some ⟨g', 0, none⟩) 1 c') ∧ OwnAt w' w.heap.size (.slice (some ⟨g', 0, none⟩) 1 c') 1 [.int .i64 1, .int .i64 0, .int .i64 0, .int .i64 1] ∧ Below w.heap.size w w' := by
  have HA0 := hidIt h
  have HW0 := hidIt hw
  have HB0 := hidIt (Below.refl w.heap.size w)
  have HL0 : Hid (w.heap.size ≤ w.heap.size) := Nat.le_refl _
  clear h hw
  go_enter Tryz.func30, Tryz.ntmps30
  obtain ⟨v0, hv0⟩ : ∃ v0, v0 = w := ⟨_, rfl⟩
  have p0 := HA0.out.at_ 0 _ rfl
  have p1 := HA0.out.at_ 1 _ rfl
  have p2 := HA0.out.at_ 2 _ rfl
  have p3 := HA0.out.at_ 3 _ rfl
  have p4 := HA0.out.at_ 4 _ rfl
  have lp := HA0.out.1
  go_wp2_with fail
  refine wp_loop_rounds 3 ?_
  rw [rounds_succ]
  have hgr := bgrow w (.cells #[.int .i64 0, .int .i64 (-1), .slice none 0 0, .bool false, .string ⟨#[112]⟩] 72)
  have HA0a := hidIt (HA0.out.go hgr)
  have HW0a := hidIt (HW0.out.go hgr)
  have HB0a := hidIt (HB0.out.trans (Below.mono hgr HL0.out))
  have HL0a : Hid (w.heap.size ≤ (w.alloc (.cells #[.int .i64 0, .int .i64 (-1), .slice none 0 0, .bool false, .string ⟨#[112]⟩] 72)).heap.size) := Nat.le_trans HL0.out hgr.size
  have HX0a := hidIt (heap_alloc_new w (.cells #[.int .i64 0, .int .i64 (-1), .slice none 0 0, .bool false, .string ⟨#[112]⟩] 72))
  clear hgr
  go_upto_region 5 with (fail)
  generalize (w.alloc (.cells #[.int .i64 0, .int .i64 (-1), .slice none 0 0, .bool false, .string ⟨#[112]⟩] 72)) = a0 at *
  obtain ⟨PX0, hPX0⟩ : ∃ P, P = w.heap.size := ⟨_, rfl⟩
  rw [← hPX0] at HX0a ⊢
  clear hPX0
  clear p0 p1 p2 p3 p4 lp
  have q0 := HW0a.out.at_ 0 _ rfl
  have q1 := HW0a.out.at_ 1 _ rfl
  have q2 := HW0a.out.at_ 2 _ rfl
  have lq := HW0a.out.1
  have hgr := bgrow a0 (.cells #[.bool true, .string ⟨#[112]⟩, .int .i64 1] 116)
  have HA0b := hidIt (HA0a.out.go hgr)
  have HW0b := hidIt (HW0a.out.go hgr)
  have HB0b := hidIt (HB0a.out.trans (Below.mono hgr HL0a.out))
  have HL0b : Hid (w.heap.size ≤ (a0.alloc (.cells #[.bool true, .string ⟨#[112]⟩, .int .i64 1] 116)).heap.size) := Nat.le_trans HL0a.out hgr.size
  have HX0b := hidIt (blk_kept2 HX0a.out hgr)
  have HZ0b := hidIt (heap_alloc_new a0 (.cells #[.bool true, .string ⟨#[112]⟩, .int .i64 1] 116))
  clear hgr
  go_wp2_with fail
  refine wp_loop_rounds 2 ?_
  rw [rounds_succ]
  go_upto_region 8 with (fail)
  generalize (a0.alloc (.cells #[.bool true, .string ⟨#[112]⟩, .int .i64 1] 116)) = b0 at *
  generalize a0.heap.size = PZ0 at *
  clear q0 q1 q2 lq
  have x3 : b0.cell? ⟨PX0, 3, none⟩ = some (.bool false) := by simp [World.cell?, HX0b.out]
  have x4 : b0.cell? ⟨PX0, 4, none⟩ = some (.string ⟨#[112]⟩) := by simp [World.cell?, HX0b.out]
  have lx := lt_of_block HX0b.out
  have z0 : b0.cell? ⟨PZ0, 0, none⟩ = some (.bool true) := by simp [World.cell?, HZ0b.out]
  have z1 : b0.cell? ⟨PZ0, 1, none⟩ = some (.string ⟨#[112]⟩) := by simp [World.cell?, HZ0b.out]
  have z2 : b0.cell? ⟨PZ0, 2, none⟩ = some (.int .i64 1) := by simp [World.cell?, HZ0b.out]
  have lz := lt_of_block HZ0b.out
  have hq := fun w => eqLitP false true w
  have hgd := fun (op : BinOp) (a b : Operand) (w : World) => gdLit op a b false true w
  have HA1 := HA0b
  have HW1 := HW0b
  have HB1 := HB0b
  have HL1 := HL0b
  go_wp2_with fail
  rw [rounds_succ]
  have p0 := HA1.out.at_ 5 _ rfl
  have p1 := HA1.out.at_ 6 _ rfl
  have p2 := HA1.out.at_ 7 _ rfl
  have p3 := HA1.out.at_ 8 _ rfl
  have p4 := HA1.out.at_ 9 _ rfl
  have lp := HA1.out.1
  clear x3 x4 lx z0 z1 z2 lz hq hgd
  go_wp2_with fail
  rw [rounds_succ]
  have hgr := bgrow b0 (.cells #[.int .i64 1, .int .i64 (-1), .slice none 0 0, .bool true, .string ⟨#[112]⟩] 72)
  have HA1a := hidIt (HA1.out.go hgr)
  have HW1a := hidIt (HW1.out.go hgr)
  have HB1a := hidIt (HB1.out.trans (Below.mono hgr HL1.out))
  have HL1a : Hid (w.heap.size ≤ (b0.alloc (.cells #[.int .i64 1, .int .i64 (-1), .slice none 0 0, .bool true, .string ⟨#[112]⟩] 72)).heap.size) := Nat.le_trans HL1.out hgr.size
  have HX1a := hidIt (heap_alloc_new b0 (.cells #[.int .i64 1, .int .i64 (-1), .slice none 0 0, .bool true, .string ⟨#[112]⟩] 72))
  clear hgr
  go_upto_region 5 with (fail)
  generalize (b0.alloc (.cells #[.int .i64 1, .int .i64 (-1), .slice none 0 0, .bool true, .string ⟨#[112]⟩] 72)) = a1 at *
  obtain ⟨PX1, hPX1⟩ : ∃ P, P = b0.heap.size := ⟨_, rfl⟩
  rw [← hPX1] at HX1a ⊢
  clear hPX1
  clear p0 p1 p2 p3 p4 lp
  have q0 := HW1a.out.at_ 0 _ rfl
  have q1 := HW1a.out.at_ 1 _ rfl
  have q2 := HW1a.out.at_ 2 _ rfl
  have lq := HW1a.out.1
  have hgr := bgrow a1 (.cells #[.bool true, .string ⟨#[112]⟩, .int .i64 1] 116)
  have HA1b := hidIt (HA1a.out.go hgr)
  have HW1b := hidIt (HW1a.out.go hgr)
  have HB1b := hidIt (HB1a.out.trans (Below.mono hgr HL1a.out))
  have HL1b : Hid (w.heap.size ≤ (a1.alloc (.cells #[.bool true, .string ⟨#[112]⟩, .int .i64 1] 116)).heap.size) := Nat.le_trans HL1a.out hgr.size
  have HX1b := hidIt (blk_kept2 HX1a.out hgr)
  have HZ1b := hidIt (heap_alloc_new a1 (.cells #[.bool true, .string ⟨#[112]⟩, .int .i64 1] 116))
  clear hgr
  go_wp2_with fail
  refine wp_loop_rounds 2 ?_
  rw [rounds_succ]
  go_upto_region 8 with (fail)
  generalize (a1.alloc (.cells #[.bool true, .string ⟨#[112]⟩, .int .i64 1] 116)) = b1 at *
  generalize a1.heap.size = PZ1 at *
  clear q0 q1 q2 lq
  have x3 : b1.cell? ⟨PX1, 3, none⟩ = some (.bool true) := by simp [World.cell?, HX1b.out]
  have x4 : b1.cell? ⟨PX1, 4, none⟩ = some (.string ⟨#[112]⟩) := by simp [World.cell?, HX1b.out]
  have lx := lt_of_block HX1b.out
  have z0 : b1.cell? ⟨PZ1, 0, none⟩ = some (.bool true) := by simp [World.cell?, HZ1b.out]
  have z1 : b1.cell? ⟨PZ1, 1, none⟩ = some (.string ⟨#[112]⟩) := by simp [World.cell?, HZ1b.out]
  have z2 : b1.cell? ⟨PZ1, 2, none⟩ = some (.int .i64 1) := by simp [World.cell?, HZ1b.out]
  have lz := lt_of_block HZ1b.out
  have hq := fun w => eqLitP true true w
  have hgd := fun (op : BinOp) (a b : Operand) (w : World) => gdLit op a b true true w
  go_wp2_with (at_builtin; refine Hid.out ?_)
  refine hidIt ?_
  refine wpList_append_kb rfl _ _ elemA rfl b1.heap.size (.slice none 0 0) 0 [] rfl (World.ownsRow_nil _ _ _ _) _ 1 rfl #[.int .i64 1, .int .i64 0, .int .i64 0, .int .i64 1] 28 (heap_alloc_new _ _) rfl (one_of (by rfl)) (by decide) (bgrow b1 (.cells #[.int .i64 1, .int .i64 0, .int .i64 0, .int .i64 1] 28)).size ?_
  intro g8 c8 e1 hown8 hg8 hbl8
  have hb8 : Below b1.heap.size b1 e1 := below_app5 (bgrow b1 (.cells #[.int .i64 1, .int .i64 0, .int .i64 0, .int .i64 1] 28)) hg8 (fun g e => by cases e) (by simp)
  have HO : Hid (OwnAt e1 w.heap.size (.slice (some ⟨g8, 0, none⟩) 1 c8) 1 [.int .i64 1, .int .i64 0, .int .i64 0, .int .i64 1]) := OwnAt.low (B := b1.heap.size) hown8 HL1b.out
  have HA2 := hidIt (HA1b.out.go hb8)
  have HW2 := hidIt (HW1b.out.go hb8)
  have HB2 := hidIt (HB1b.out.trans (Below.mono hb8 HL1b.out))
  have HL2 : Hid (w.heap.size ≤ e1.heap.size) := Nat.le_trans HL1b.out hb8.size
  clear hown8 hg8 hbl8 hb8 x3 x4 lx z0 z1 z2 lz hq hgd
  go_wp2_with fail
  rw [rounds_succ]
  go_wp2_with fail
  rw [rounds_succ]
  go_wp2_with fail
  go_ret
  exact ⟨_, _, rfl, HO.out, HB2.out⟩

set_option maxRecDepth 100000 in
set_option maxHeartbeats 2000000 in
theorem attacksAt_leaf1 (g c gw : Nat) (w : World) (h : CR w g argC) (hw : CR w gw [.bool false, .string ⟨#[112]⟩, .int .i64 1]) :
    Calls Tryz.prog 30 #[.slice (some ⟨g, 0, none⟩) 2 c, .slice (some ⟨gw, 0, none⟩) 1 1, .int .i64 1, .int .i64 1] w fun e w' => ∃ g' c' : Nat, e = .returned (.slice (some ⟨g', 0, none⟩) 1 c') ∧ OwnAt w' w.heap.size (.slice (some ⟨g', 0, none⟩) 1 c') 1 [.int .i64 0, .int .i64 1, .int .i64 1, .int .i64 1] ∧ Below w.heap.size w w' := by
  have HA0 := hidIt h
  have HW0 := hidIt hw
  have HB0 := hidIt (Below.refl w.heap.size w)
  have HL0 : Hid (w.heap.size ≤ w.heap.size) := Nat.le_refl _
  clear h hw
  go_enter Tryz.func30, Tryz.ntmps30
  obtain ⟨v0, hv0⟩ : ∃ v0, v0 = w := ⟨_, rfl⟩
  have p0 := HA0.out.at_ 0 _ rfl
  have p1 := HA0.out.at_ 1 _ rfl
  have p2 := HA0.out.at_ 2 _ rfl
  have p3 := HA0.out.at_ 3 _ rfl
  have p4 := HA0.out.at_ 4 _ rfl
  have lp := HA0.out.1
  go_wp2_with fail
  refine wp_loop_rounds 3 ?_
  rw [rounds_succ]
  have hgr := bgrow w (.cells #[.int .i64 0, .int .i64 (-1), .slice none 0 0, .bool false, .string ⟨#[112]⟩] 72)
  have HA0a := hidIt (HA0.out.go hgr)
  have HW0a := hidIt (HW0.out.go hgr)
  have HB0a := hidIt (HB0.out.trans (Below.mono hgr HL0.out))
  have HL0a : Hid (w.heap.size ≤ (w.alloc (.cells #[.int .i64 0, .int .i64 (-1), .slice none 0 0, .bool false, .string ⟨#[112]⟩] 72)).heap.size) := Nat.le_trans HL0.out hgr.size
  have HX0a := hidIt (heap_alloc_new w (.cells #[.int .i64 0, .int .i64 (-1), .slice none 0 0, .bool false, .string ⟨#[112]⟩] 72))
  clear hgr
  go_upto_region 5 with (fail)
  generalize (w.alloc (.cells #[.int .i64 0, .int .i64 (-1), .slice none 0 0, .bool false, .string ⟨#[112]⟩] 72)) = a0 at *
  obtain ⟨PX0, hPX0⟩ : ∃ P, P = w.heap.size := ⟨_, rfl⟩
  rw [← hPX0] at HX0a ⊢
  clear hPX0
  clear p0 p1 p2 p3 p4 lp
  have q0 := HW0a.out.at_ 0 _ rfl
  have q1 := HW0a.out.at_ 1 _ rfl
  have q2 := HW0a.out.at_ 2 _ rfl
  have lq := HW0a.out.1
  have hgr := bgrow a0 (.cells #[.bool false, .string ⟨#[112]⟩, .int .i64 1] 116)
  have HA0b := hidIt (HA0a.out.go hgr)
  have HW0b := hidIt (HW0a.out.go hgr)
  have HB0b := hidIt (HB0a.out.trans (Below.mono hgr HL0a.out))
  have HL0b : Hid (w.heap.size ≤ (a0.alloc (.cells #[.bool false, .string ⟨#[112]⟩, .int .i64 1] 116)).heap.size) := Nat.le_trans HL0a.out hgr.size
  have HX0b := hidIt (blk_kept2 HX0a.out hgr)
  have HZ0b := hidIt (heap_alloc_new a0 (.cells #[.bool false, .string ⟨#[112]⟩, .int .i64 1] 116))
  clear hgr
  go_wp2_with fail
  refine wp_loop_rounds 2 ?_
  rw [rounds_succ]
  go_upto_region 8 with (fail)
  generalize (a0.alloc (.cells #[.bool false, .string ⟨#[112]⟩, .int .i64 1] 116)) = b0 at *
  generalize a0.heap.size = PZ0 at *
  clear q0 q1 q2 lq
  have x3 : b0.cell? ⟨PX0, 3, none⟩ = some (.bool false) := by simp [World.cell?, HX0b.out]
  have x4 : b0.cell? ⟨PX0, 4, none⟩ = some (.string ⟨#[112]⟩) := by simp [World.cell?, HX0b.out]
  have lx := lt_of_block HX0b.out
  have z0 : b0.cell? ⟨PZ0, 0, none⟩ = some (.bool false) := by simp [World.cell?, HZ0b.out]
  have z1 : b0.cell? ⟨PZ0, 1, none⟩ = some (.string ⟨#[112]⟩) := by simp [World.cell?, HZ0b.out]
  have z2 : b0.cell? ⟨PZ0, 2, none⟩ = some (.int .i64 1) := by simp [World.cell?, HZ0b.out]
  have lz := lt_of_block HZ0b.out
  have hq := fun w => eqLitP false false w
  have hgd := fun (op : BinOp) (a b : Operand) (w : World) => gdLit op a b false false w
  go_wp2_with (at_builtin; refine Hid.out ?_)
  refine hidIt ?_
  refine wpList_append_kb rfl _ _ elemA rfl b0.heap.size (.slice none 0 0) 0 [] rfl (World.ownsRow_nil _ _ _ _) _ 1 rfl #[.int .i64 0, .int .i64 1, .int .i64 1, .int .i64 1] 28 (heap_alloc_new _ _) rfl (one_of (by rfl)) (by decide) (bgrow b0 (.cells #[.int .i64 0, .int .i64 1, .int .i64 1, .int .i64 1] 28)).size ?_
  intro g8 c8 e0 hown8 hg8 hbl8
  have hb8 : Below b0.heap.size b0 e0 := below_app5 (bgrow b0 (.cells #[.int .i64 0, .int .i64 1, .int .i64 1, .int .i64 1] 28)) hg8 (fun g e => by cases e) (by simp)
  have HO : Hid (OwnAt e0 w.heap.size (.slice (some ⟨g8, 0, none⟩) 1 c8) 1 [.int .i64 0, .int .i64 1, .int .i64 1, .int .i64 1]) := OwnAt.low (B := b0.heap.size) hown8 HL0b.out
  have HA1 := hidIt (HA0b.out.go hb8)
  have HW1 := hidIt (HW0b.out.go hb8)
  have HB1 := hidIt (HB0b.out.trans (Below.mono hb8 HL0b.out))
  have HL1 : Hid (w.heap.size ≤ e0.heap.size) := Nat.le_trans HL0b.out hb8.size
  clear hown8 hg8 hbl8 hb8 x3 x4 lx z0 z1 z2 lz hq hgd
  go_wp2_with fail
  rw [rounds_succ]
  have p0 := HA1.out.at_ 5 _ rfl
  have p1 := HA1.out.at_ 6 _ rfl
  have p2 := HA1.out.at_ 7 _ rfl
  have p3 := HA1.out.at_ 8 _ rfl
  have p4 := HA1.out.at_ 9 _ rfl
  have lp := HA1.out.1
  go_wp2_with fail
  rw [rounds_succ]
  have hgr := bgrow e0 (.cells #[.int .i64 1, .int .i64 (-1), .slice none 0 0, .bool true, .string ⟨#[112]⟩] 72)
  have HA1a := hidIt (HA1.out.go hgr)
  have HW1a := hidIt (HW1.out.go hgr)
  have HB1a := hidIt (HB1.out.trans (Below.mono hgr HL1.out))
  have HL1a : Hid (w.heap.size ≤ (e0.alloc (.cells #[.int .i64 1, .int .i64 (-1), .slice none 0 0, .bool true, .string ⟨#[112]⟩] 72)).heap.size) := Nat.le_trans HL1.out hgr.size
  have HX1a := hidIt (heap_alloc_new e0 (.cells #[.int .i64 1, .int .i64 (-1), .slice none 0 0, .bool true, .string ⟨#[112]⟩] 72))
  have HO1a := hidIt (HO.out.go hgr)
  clear hgr
  go_upto_region 5 with (fail)
  generalize (e0.alloc (.cells #[.int .i64 1, .int .i64 (-1), .slice none 0 0, .bool true, .string ⟨#[112]⟩] 72)) = a1 at *
  obtain ⟨PX1, hPX1⟩ : ∃ P, P = e0.heap.size := ⟨_, rfl⟩
  rw [← hPX1] at HX1a ⊢
  clear hPX1
  clear p0 p1 p2 p3 p4 lp
  have q0 := HW1a.out.at_ 0 _ rfl
  have q1 := HW1a.out.at_ 1 _ rfl
  have q2 := HW1a.out.at_ 2 _ rfl
  have lq := HW1a.out.1
  have hgr := bgrow a1 (.cells #[.bool false, .string ⟨#[112]⟩, .int .i64 1] 116)
  have HA1b := hidIt (HA1a.out.go hgr)
  have HW1b := hidIt (HW1a.out.go hgr)
  have HB1b := hidIt (HB1a.out.trans (Below.mono hgr HL1a.out))
  have HL1b : Hid (w.heap.size ≤ (a1.alloc (.cells #[.bool false, .string ⟨#[112]⟩, .int .i64 1] 116)).heap.size) := Nat.le_trans HL1a.out hgr.size
  have HX1b := hidIt (blk_kept2 HX1a.out hgr)
  have HZ1b := hidIt (heap_alloc_new a1 (.cells #[.bool false, .string ⟨#[112]⟩, .int .i64 1] 116))
  have HO1b := hidIt (HO1a.out.go hgr)
  clear hgr
  go_wp2_with fail
  refine wp_loop_rounds 2 ?_
  rw [rounds_succ]
  go_upto_region 8 with (fail)
  generalize (a1.alloc (.cells #[.bool false, .string ⟨#[112]⟩, .int .i64 1] 116)) = b1 at *
  generalize a1.heap.size = PZ1 at *
  clear q0 q1 q2 lq
  have x3 : b1.cell? ⟨PX1, 3, none⟩ = some (.bool true) := by simp [World.cell?, HX1b.out]
  have x4 : b1.cell? ⟨PX1, 4, none⟩ = some (.string ⟨#[112]⟩) := by simp [World.cell?, HX1b.out]
  have lx := lt_of_block HX1b.out
  have z0 : b1.cell? ⟨PZ1, 0, none⟩ = some (.bool false) := by simp [World.cell?, HZ1b.out]
  have z1 : b1.cell? ⟨PZ1, 1, none⟩ = some (.string ⟨#[112]⟩) := by simp [World.cell?, HZ1b.out]
  have z2 : b1.cell? ⟨PZ1, 2, none⟩ = some (.int .i64 1) := by simp [World.cell?, HZ1b.out]
  have lz := lt_of_block HZ1b.out
  have hq := fun w => eqLitP true false w
  have hgd := fun (op : BinOp) (a b : Operand) (w : World) => gdLit op a b true false w
  have HA2 := HA1b
  have HW2 := HW1b
  have HB2 := HB1b
  have HL2 := HL1b
  have HO := HO1b
  go_wp2_with fail
  rw [rounds_succ]
  go_wp2_with fail
  rw [rounds_succ]
  go_wp2_with fail
  go_ret
  exact ⟨_, _, rfl, HO.out, HB2.out⟩
end Go.Proofs.YtplkkkkcmfgkfaaGreat
