/- reach, Subs at the two leaves. -/
import Derived.Test.YtplkkkkcmfgkfaaGreatA9a
namespace Go.Proofs.YtplkkkkcmfgkfaaGreat
set_option linter.unusedVariables false
set_option linter.unusedSimpArgs false
open Go Go.RowKit Go.Sort

theorem infoB9 : (Tryz.prog.info? 4).map (fun i => (i.zero, i.size, i.bytes)) = some (some (.bool false), 1, 1) := by kernel_rfl
theorem infoI9 : (Tryz.prog.info? 3).map (fun i => (i.zero, i.size, i.bytes)) = some (some (.int .i64 0), 1, 8) := by kernel_rfl
theorem elemI : ElemOf 23 3 1 8 := elem_of Tryz.underlying23 infoI9 rfl (by decide) (by decide)
theorem make_bools (n : Nat) (hn : n ≤ 1000) (w : World) : (Instr.makeSlice 135 (.int .i64 (n : Int)) (.int .i64 (n : Int))).run Tryz.prog w = .ok (.slice (some ⟨w.heap.size, 0, none⟩) n n) (w.alloc (.cells (madeCells #[.bool false] n) 4)) := by
  obtain ⟨i0, hi, hz0, hz1, hz2⟩ := info_parts infoB9
  have hr := run_make (P := Tryz.prog) w 135 4 i0 _ Tryz.underlying135 hi hz0 .i64 .i64 (n : Int) (n : Int) (by omega) (by omega) (by rw [hz2]; omega) (by omega)
  rw [hz1] at hr
  simp only [Int.toNat_natCast, Nat.mul_one] at hr
  exact hr

/-- A list of one number that the call owns. -/
def Own1 (w : World) (B : Nat) (v : Value) (z : Int) : Prop := w.ownsRow B 3 1 v 1 [.int .i64 z]
theorem Own1.go {w w' : World} {B : Nat} {v : Value} {z : Int} (h : Own1 w B v z) (hb : Below w.heap.size w w') : Own1 w' B v z := owns_kept h fun g e => hb.block g (owns_blk h g e).2
theorem Own1.slice {w : World} {B : Nat} {v : Value} {z : Int} (h : Own1 w B v z) : ∃ g cap : Nat, v = .slice (some ⟨g, 0, none⟩) 1 cap ∧ B ≤ g ∧ g < w.heap.size ∧ w.cell? ⟨g, 0, none⟩ = some (.int .i64 z) := by
  obtain ⟨g, cap, rfl, hg⟩ := owns_slice h
  exact ⟨g, cap, rfl, hg, (owns_blk h g rfl).2, owns_cell h rfl 0 _ rfl⟩

theorem made1 : madeCells #[.bool false] 1 = #[.bool false] := by kernel_rfl
theorem made2 : madeCells #[.bool false] 2 = #[.bool false, .bool false] := by kernel_rfl

set_option maxRecDepth 100000 in
set_option maxHeartbeats 1000000 in
theorem reach0 (g c : Nat) (w : World) (h : CR w g argC) :
    Calls Tryz.prog 57 #[.slice (some ⟨g, 0, none⟩) 2 c, .int .i64 0, .func (Fn.func 58) #[] #[]] w fun e w' => ∃ v, e = .returned v ∧ Own1 w' w.heap.size v 0 ∧ Below w.heap.size w w' := by
  have H := hidIt h
  clear h
  have hmk : ∀ w : World, (Instr.makeSlice 135 (.int .i64 1) (.int .i64 1)).run Tryz.prog w = .ok (.slice (some ⟨w.heap.size, 0, none⟩) 1 1) (w.alloc (.cells #[.bool false] 4)) := fun w => by
    have := make_bools 1 (by decide) w
    rw [made1] at this
    exact this
  have HB2 := hidIt (bgrow w (.cells #[.bool true] 4))
  have HM2 := hidIt (heap_alloc_new w (.cells #[.bool true] 4))
  go_enter Tryz.func57, Tryz.ntmps57
  go_wp2_with fail
  refine (arIdx_any 0 2 _).mono ?_
  rintro e w1 ⟨rfl, rfl⟩
  rw [show ixB 0 2 = true from rfl]
  go_upto_region 5 with (fail)
  generalize (w1.alloc (.cells #[.bool true] 4)) = w2 at *
  obtain ⟨P, hP⟩ : ∃ P, P = w1.heap.size := ⟨_, rfl⟩
  have HP := hidIt hP
  rw [← hP] at HM2 HB2 ⊢
  clear hP hmk
  have H2 := hidIt (H.out.go (by rw [← HP.out]; exact HB2.out))
  clear H
  have m0 : w2.cell? ⟨P, 0, none⟩ = some (.bool true) := by simp [World.cell?, HM2.out]
  have lm := lt_of_block HM2.out
  go_wp2_with fail
  refine wp_loop_rounds 2 ?_
  rw [rounds_succ]
  go_wp2_with (at_builtin; refine Hid.out ?_)
  refine hidIt ?_
  refine wpList_append_kb rfl _ _ elemI rfl P (.slice none 0 0) 0 [] rfl (World.ownsRow_nil _ P _ _) _ 1 rfl #[.int .i64 0] 3 (heap_alloc_new _ _) rfl (one_of (by rfl)) (by decide) (Nat.le_trans (Nat.le_of_lt lm) (bgrow w2 (.cells #[.int .i64 0] 3)).size) ?_
  intro g8 c8 w8 hown8 hg8 hbl8
  have hb8 : Below w2.heap.size w2 w8 := below_app5 (bgrow w2 (.cells #[.int .i64 0] 3)) hg8 (fun g e => by cases e) (by simp)
  have HB8 := hidIt (HB2.out.trans (Below.mono hb8 (Nat.le_of_lt lm)))
  have HO8 : Hid (Own1 w8 P (.slice (some ⟨g8, 0, none⟩) 1 c8) 0) := hown8
  have HM8 := hidIt (blk_kept2 HM2.out hb8)
  have H8 := hidIt (H2.out.go hb8)
  clear hown8 hg8 hbl8 hb8 HB2 HM2 H2 m0 lm
  have a0 := H8.out.at_ 0 _ rfl
  have a1 := H8.out.at_ 1 _ rfl
  have a2 := H8.out.at_ 2 _ rfl
  have a3 := H8.out.at_ 3 _ rfl
  have a4 := H8.out.at_ 4 _ rfl
  have la := H8.out.1
  go_wp2_with fail
  refine (subs1_any 0 (-1) _ rfl _ _ _).mono ?_
  rintro e w9 ⟨rfl, hb9⟩
  have HB9 := hidIt (HB8.out.trans (Below.mono hb9 (Nat.le_of_lt (lt_of_block HM8.out))))
  have HO9 := hidIt (HO8.out.go hb9)
  have HM9 := hidIt (blk_kept2 HM8.out hb9)
  have H9 := hidIt (H8.out.go hb9)
  clear hb9 HB8 HO8 HM8 H8 a0 a1 a2 a3 a4 la
  have a2 := H9.out.at_ 2 _ rfl
  have la := H9.out.1
  go_wp2_with fail
  refine (mark_nil _ _).mono ?_
  rintro e w10 ⟨rfl, rfl⟩
  go_wp2_with fail
  have m9 : w10.cell? ⟨P, 0, none⟩ = some (.bool true) := by simp [World.cell?, HM9.out]
  have lm := lt_of_block HM9.out
  rw [rounds_succ]
  go_wp2_with fail
  refine (rev_one _ _ _).mono ?_
  rintro e wz ⟨rfl, rfl⟩
  go_wp2_with fail
  go_ret
  exact ⟨_, rfl, (by rw [← HP.out]; exact HO9.out), (by rw [← HP.out]; exact HB9.out)⟩

set_option maxRecDepth 100000 in
set_option maxHeartbeats 1000000 in
theorem reach1 (g c : Nat) (w : World) (h : CR w g argC) :
    Calls Tryz.prog 57 #[.slice (some ⟨g, 0, none⟩) 2 c, .int .i64 1, .func (Fn.func 58) #[] #[]] w fun e w' => ∃ v, e = .returned v ∧ Own1 w' w.heap.size v 1 ∧ Below w.heap.size w w' := by
  have H := hidIt h
  clear h
  have hmk : ∀ w : World, (Instr.makeSlice 135 (.int .i64 2) (.int .i64 2)).run Tryz.prog w = .ok (.slice (some ⟨w.heap.size, 0, none⟩) 2 2) (w.alloc (.cells #[.bool false, .bool false] 4)) := fun w => by
    have := make_bools 2 (by decide) w
    rw [made2] at this
    exact this
  have HB2 := hidIt (bgrow w (.cells #[.bool false, .bool true] 4))
  have HM2 := hidIt (heap_alloc_new w (.cells #[.bool false, .bool true] 4))
  go_enter Tryz.func57, Tryz.ntmps57
  go_wp2_with fail
  refine (arIdx_any 1 2 _).mono ?_
  rintro e w1 ⟨rfl, rfl⟩
  rw [show ixB 1 2 = true from rfl]
  go_upto_region 5 with (fail)
  generalize (w1.alloc (.cells #[.bool false, .bool true] 4)) = w2 at *
  obtain ⟨P, hP⟩ : ∃ P, P = w1.heap.size := ⟨_, rfl⟩
  have HP := hidIt hP
  rw [← hP] at HM2 HB2 ⊢
  clear hP hmk
  have H2 := hidIt (H.out.go (by rw [← HP.out]; exact HB2.out))
  clear H
  have m0 : w2.cell? ⟨P, 1, none⟩ = some (.bool true) := by simp [World.cell?, HM2.out]
  have lm := lt_of_block HM2.out
  go_wp2_with fail
  refine wp_loop_rounds 3 ?_
  rw [rounds_succ]
  go_wp2_with (at_builtin; refine Hid.out ?_)
  refine hidIt ?_
  refine wpList_append_kb rfl _ _ elemI rfl P (.slice none 0 0) 0 [] rfl (World.ownsRow_nil _ P _ _) _ 1 rfl #[.int .i64 1] 3 (heap_alloc_new _ _) rfl (one_of (by rfl)) (by decide) (Nat.le_trans (Nat.le_of_lt lm) (bgrow w2 (.cells #[.int .i64 1] 3)).size) ?_
  intro g8 c8 w8 hown8 hg8 hbl8
  have hb8 : Below w2.heap.size w2 w8 := below_app5 (bgrow w2 (.cells #[.int .i64 1] 3)) hg8 (fun g e => by cases e) (by simp)
  have HB8 := hidIt (HB2.out.trans (Below.mono hb8 (Nat.le_of_lt lm)))
  have HO8 : Hid (Own1 w8 P (.slice (some ⟨g8, 0, none⟩) 1 c8) 1) := hown8
  have HM8 := hidIt (blk_kept2 HM2.out hb8)
  have H8 := hidIt (H2.out.go hb8)
  clear hown8 hg8 hbl8 hb8 HB2 HM2 H2 m0 lm
  have a0 := H8.out.at_ 5 _ rfl
  have a1 := H8.out.at_ 6 _ rfl
  have a2 := H8.out.at_ 7 _ rfl
  have a3 := H8.out.at_ 8 _ rfl
  have a4 := H8.out.at_ 9 _ rfl
  have la := H8.out.1
  go_wp2_with fail
  refine (subs1_any 1 (-1) _ rfl _ _ _).mono ?_
  rintro e w9 ⟨rfl, hb9⟩
  have HB9 := hidIt (HB8.out.trans (Below.mono hb9 (Nat.le_of_lt (lt_of_block HM8.out))))
  have HO9 := hidIt (HO8.out.go hb9)
  have HM9 := hidIt (blk_kept2 HM8.out hb9)
  have H9 := hidIt (H8.out.go hb9)
  clear hb9 HB8 HO8 HM8 H8 a0 a1 a2 a3 a4 la
  have a2 := H9.out.at_ 7 _ rfl
  have la := H9.out.1
  go_wp2_with fail
  refine (mark_nil _ _).mono ?_
  rintro e w10 ⟨rfl, rfl⟩
  go_wp2_with fail
  have m9 : w10.cell? ⟨P, 0, none⟩ = some (.bool false) := by simp [World.cell?, HM9.out]
  have lm := lt_of_block HM9.out
  rw [rounds_succ]
  go_wp2_with fail
  rw [rounds_succ]
  go_wp2_with fail
  refine (rev_one _ _ _).mono ?_
  rintro e wz ⟨rfl, rfl⟩
  go_wp2_with fail
  go_ret
  exact ⟨_, rfl, (by rw [← HP.out]; exact HO9.out), (by rw [← HP.out]; exact HB9.out)⟩

set_option maxRecDepth 100000 in
set_option maxHeartbeats 1000000 in
theorem reachR0 (g c : Nat) (m : Nat) (pa : Option Addr) (pc : Nat) (w : World) (h : CR w g argC) (hm : CR w m [.slice pa 2 pc, .slice none 0 0, .slice none 0 0]) :
    Calls Tryz.prog 57 #[.slice (some ⟨g, 0, none⟩) 2 c, .int .i64 0, .func (Fn.func 116) #[] #[.pointer (some ⟨m, 0, none⟩)]] w fun e w' => ∃ v, e = .returned v ∧ Own1 w' w.heap.size v 0 ∧ Below w.heap.size w w' := by
  have H := hidIt h
  have HBX := hidIt hm
  clear hm
  clear h
  have hmk : ∀ w : World, (Instr.makeSlice 135 (.int .i64 1) (.int .i64 1)).run Tryz.prog w = .ok (.slice (some ⟨w.heap.size, 0, none⟩) 1 1) (w.alloc (.cells #[.bool false] 4)) := fun w => by
    have := make_bools 1 (by decide) w
    rw [made1] at this
    exact this
  have HB2 := hidIt (bgrow w (.cells #[.bool true] 4))
  have HM2 := hidIt (heap_alloc_new w (.cells #[.bool true] 4))
  go_enter Tryz.func57, Tryz.ntmps57
  go_wp2_with fail
  refine (arIdx_any 0 2 _).mono ?_
  rintro e w1 ⟨rfl, rfl⟩
  rw [show ixB 0 2 = true from rfl]
  go_upto_region 5 with (fail)
  generalize (w1.alloc (.cells #[.bool true] 4)) = w2 at *
  obtain ⟨P, hP⟩ : ∃ P, P = w1.heap.size := ⟨_, rfl⟩
  have HP := hidIt hP
  rw [← hP] at HM2 HB2 ⊢
  clear hP hmk
  have H2 := hidIt (H.out.go (by rw [← HP.out]; exact HB2.out))
  have HBX2 := hidIt (HBX.out.go (by rw [← HP.out]; exact HB2.out))
  clear HBX
  clear H
  have m0 : w2.cell? ⟨P, 0, none⟩ = some (.bool true) := by simp [World.cell?, HM2.out]
  have lm := lt_of_block HM2.out
  go_wp2_with fail
  refine wp_loop_rounds 2 ?_
  rw [rounds_succ]
  go_wp2_with (at_builtin; refine Hid.out ?_)
  refine hidIt ?_
  refine wpList_append_kb rfl _ _ elemI rfl P (.slice none 0 0) 0 [] rfl (World.ownsRow_nil _ P _ _) _ 1 rfl #[.int .i64 0] 3 (heap_alloc_new _ _) rfl (one_of (by rfl)) (by decide) (Nat.le_trans (Nat.le_of_lt lm) (bgrow w2 (.cells #[.int .i64 0] 3)).size) ?_
  intro g8 c8 w8 hown8 hg8 hbl8
  have hb8 : Below w2.heap.size w2 w8 := below_app5 (bgrow w2 (.cells #[.int .i64 0] 3)) hg8 (fun g e => by cases e) (by simp)
  have HB8 := hidIt (HB2.out.trans (Below.mono hb8 (Nat.le_of_lt lm)))
  have HO8 : Hid (Own1 w8 P (.slice (some ⟨g8, 0, none⟩) 1 c8) 0) := hown8
  have HM8 := hidIt (blk_kept2 HM2.out hb8)
  have H8 := hidIt (H2.out.go hb8)
  have HBX8 := hidIt (HBX2.out.go hb8)
  clear HBX2
  clear hown8 hg8 hbl8 hb8 HB2 HM2 H2 m0 lm
  have a0 := H8.out.at_ 0 _ rfl
  have a1 := H8.out.at_ 1 _ rfl
  have a2 := H8.out.at_ 2 _ rfl
  have a3 := H8.out.at_ 3 _ rfl
  have a4 := H8.out.at_ 4 _ rfl
  have la := H8.out.1
  go_wp2_with fail
  refine (run1_leaf _ _ _ _ _ _ _ HBX8.out).mono ?_
  rintro e w9 ⟨rfl, hb9⟩
  have HB9 := hidIt (HB8.out.trans (Below.mono hb9 (Nat.le_of_lt (lt_of_block HM8.out))))
  have HO9 := hidIt (HO8.out.go hb9)
  have HM9 := hidIt (blk_kept2 HM8.out hb9)
  have H9 := hidIt (H8.out.go hb9)
  clear hb9 HB8 HO8 HM8 H8 a0 a1 a2 a3 a4 la
  have a2 := H9.out.at_ 2 _ rfl
  have la := H9.out.1
  go_wp2_with fail
  have m9 : w9.cell? ⟨P, 0, none⟩ = some (.bool true) := by simp [World.cell?, HM9.out]
  have lm := lt_of_block HM9.out
  rw [rounds_succ]
  go_wp2_with fail
  refine (rev_one _ _ _).mono ?_
  rintro e wz ⟨rfl, rfl⟩
  go_wp2_with fail
  go_ret
  exact ⟨_, rfl, (by rw [← HP.out]; exact HO9.out), (by rw [← HP.out]; exact HB9.out)⟩

set_option maxRecDepth 100000 in
set_option maxHeartbeats 1000000 in
theorem reachR1 (g c : Nat) (m : Nat) (pa : Option Addr) (pc : Nat) (w : World) (h : CR w g argC) (hm : CR w m [.slice pa 2 pc, .slice none 0 0, .slice none 0 0]) :
    Calls Tryz.prog 57 #[.slice (some ⟨g, 0, none⟩) 2 c, .int .i64 1, .func (Fn.func 116) #[] #[.pointer (some ⟨m, 0, none⟩)]] w fun e w' => ∃ v, e = .returned v ∧ Own1 w' w.heap.size v 1 ∧ Below w.heap.size w w' := by
  have H := hidIt h
  have HBX := hidIt hm
  clear hm
  clear h
  have hmk : ∀ w : World, (Instr.makeSlice 135 (.int .i64 2) (.int .i64 2)).run Tryz.prog w = .ok (.slice (some ⟨w.heap.size, 0, none⟩) 2 2) (w.alloc (.cells #[.bool false, .bool false] 4)) := fun w => by
    have := make_bools 2 (by decide) w
    rw [made2] at this
    exact this
  have HB2 := hidIt (bgrow w (.cells #[.bool false, .bool true] 4))
  have HM2 := hidIt (heap_alloc_new w (.cells #[.bool false, .bool true] 4))
  go_enter Tryz.func57, Tryz.ntmps57
  go_wp2_with fail
  refine (arIdx_any 1 2 _).mono ?_
  rintro e w1 ⟨rfl, rfl⟩
  rw [show ixB 1 2 = true from rfl]
  go_upto_region 5 with (fail)
  generalize (w1.alloc (.cells #[.bool false, .bool true] 4)) = w2 at *
  obtain ⟨P, hP⟩ : ∃ P, P = w1.heap.size := ⟨_, rfl⟩
  have HP := hidIt hP
  rw [← hP] at HM2 HB2 ⊢
  clear hP hmk
  have H2 := hidIt (H.out.go (by rw [← HP.out]; exact HB2.out))
  have HBX2 := hidIt (HBX.out.go (by rw [← HP.out]; exact HB2.out))
  clear HBX
  clear H
  have m0 : w2.cell? ⟨P, 1, none⟩ = some (.bool true) := by simp [World.cell?, HM2.out]
  have lm := lt_of_block HM2.out
  go_wp2_with fail
  refine wp_loop_rounds 3 ?_
  rw [rounds_succ]
  go_wp2_with (at_builtin; refine Hid.out ?_)
  refine hidIt ?_
  refine wpList_append_kb rfl _ _ elemI rfl P (.slice none 0 0) 0 [] rfl (World.ownsRow_nil _ P _ _) _ 1 rfl #[.int .i64 1] 3 (heap_alloc_new _ _) rfl (one_of (by rfl)) (by decide) (Nat.le_trans (Nat.le_of_lt lm) (bgrow w2 (.cells #[.int .i64 1] 3)).size) ?_
  intro g8 c8 w8 hown8 hg8 hbl8
  have hb8 : Below w2.heap.size w2 w8 := below_app5 (bgrow w2 (.cells #[.int .i64 1] 3)) hg8 (fun g e => by cases e) (by simp)
  have HB8 := hidIt (HB2.out.trans (Below.mono hb8 (Nat.le_of_lt lm)))
  have HO8 : Hid (Own1 w8 P (.slice (some ⟨g8, 0, none⟩) 1 c8) 1) := hown8
  have HM8 := hidIt (blk_kept2 HM2.out hb8)
  have H8 := hidIt (H2.out.go hb8)
  have HBX8 := hidIt (HBX2.out.go hb8)
  clear HBX2
  clear hown8 hg8 hbl8 hb8 HB2 HM2 H2 m0 lm
  have a0 := H8.out.at_ 5 _ rfl
  have a1 := H8.out.at_ 6 _ rfl
  have a2 := H8.out.at_ 7 _ rfl
  have a3 := H8.out.at_ 8 _ rfl
  have a4 := H8.out.at_ 9 _ rfl
  have la := H8.out.1
  go_wp2_with fail
  refine (run1_leaf _ _ _ _ _ _ _ HBX8.out).mono ?_
  rintro e w9 ⟨rfl, hb9⟩
  have HB9 := hidIt (HB8.out.trans (Below.mono hb9 (Nat.le_of_lt (lt_of_block HM8.out))))
  have HO9 := hidIt (HO8.out.go hb9)
  have HM9 := hidIt (blk_kept2 HM8.out hb9)
  have H9 := hidIt (H8.out.go hb9)
  clear hb9 HB8 HO8 HM8 H8 a0 a1 a2 a3 a4 la
  have a2 := H9.out.at_ 7 _ rfl
  have la := H9.out.1
  go_wp2_with fail
  have m9 : w9.cell? ⟨P, 0, none⟩ = some (.bool false) := by simp [World.cell?, HM9.out]
  have lm := lt_of_block HM9.out
  rw [rounds_succ]
  go_wp2_with fail
  rw [rounds_succ]
  go_wp2_with fail
  refine (rev_one _ _ _).mono ?_
  rintro e wz ⟨rfl, rfl⟩
  go_wp2_with fail
  go_ret
  exact ⟨_, rfl, (by rw [← HP.out]; exact HO9.out), (by rw [← HP.out]; exact HB9.out)⟩
end Go.Proofs.YtplkkkkcmfgkfaaGreat
