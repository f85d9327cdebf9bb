/- The reference's Validate and Build at the base of the chapter's two premises. -/
import Derived.Test.YtplkkkkcmfgkfaaGreatA9v
import Derived.Test.YtplkkkkcmfgkfaaGreatIn
namespace Go.Proofs.YtplkkkkcmfgkfaaGreat
set_option linter.unusedVariables false
set_option linter.unusedSimpArgs false
open Go Go.RowKit Go.Sort

theorem base3 {w : World} {P : Nat} {u v x : Value} {t : TypeId} (h : w.heap[P]? = some (.cells #[u, v, x] t (0, 0))) : w.cell? ⟨P, 0, none⟩ = some u ∧ w.cell? ⟨P, 1, none⟩ = some v ∧ w.cell? ⟨P, 2, none⟩ = some x := by
  refine ⟨?_, ?_, ?_⟩ <;> simp [World.cell?, h]

set_option maxRecDepth 100000 in
set_option maxHeartbeats 2000000 in
theorem rvalidate_two (pb pc : Nat) (w : World) (hp : CR w pb premC) :
    Calls Tryz.prog 24 #[.agg #[.slice (some ⟨pb, 0, none⟩) 2 pc, .slice none 0 0, .slice none 0 0]] w fun e w' => e = .returned (.int .i64 0) ∧ Below w.heap.size w w' := by
  have hgr := bgrow w (.cells #[.slice (some ⟨pb, 0, none⟩) 2 pc, .slice none 0 0, .slice none 0 0] 58)
  have HB0 := hidIt hgr
  have HP0 := hidIt (hp.go hgr)
  have HX0 := hidIt (heap_alloc_new w (.cells #[.slice (some ⟨pb, 0, none⟩) 2 pc, .slice none 0 0, .slice none 0 0] 58))
  have HL0 : Hid (w.heap.size ≤ (w.alloc (.cells #[.slice (some ⟨pb, 0, none⟩) 2 pc, .slice none 0 0, .slice none 0 0] 58)).heap.size) := hgr.size
  clear hgr hp
  go_enter Tryz.func24, Tryz.ntmps24
  go_upto_region 1 with (fail)
  generalize (w.alloc (.cells #[.slice (some ⟨pb, 0, none⟩) 2 pc, .slice none 0 0, .slice none 0 0] 58)) = v0 at *
  obtain ⟨x0, x1, x2⟩ := base3 HX0.out
  have lx := lt_of_block HX0.out
  have p0 := HP0.out.at_ 0 _ rfl
  have p1 := HP0.out.at_ 1 _ rfl
  have p2 := HP0.out.at_ 2 _ rfl
  have p3 := HP0.out.at_ 3 _ rfl
  have p4 := HP0.out.at_ 4 _ rfl
  have lp := HP0.out.1
  go_wp2_with fail
  refine wp_loop_rounds 3 ?_
  rw [rounds_succ]
  go_wp2_with fail
  refine (rpremise_ok false 1 (by decide) (by decide) _).mono ?_
  rintro e v1 ⟨rfl, hb⟩
  have HB1 := hidIt (HB0.out.trans (Below.mono hb HL0.out))
  have HL1 : Hid (w.heap.size ≤ v1.heap.size) := Nat.le_trans HL0.out hb.size
  have HP1 := hidIt (HP0.out.go hb)
  have HX1 := hidIt (blk_kept2 HX0.out hb)
  clear hb p0 p1 p2 p3 p4 x0 x1 x2 lx lp HB0 HL0 HP0 HX0
  obtain ⟨m0, m1, m2⟩ := base3 HX1.out
  have lm := lt_of_block HX1.out
  have y0 := HP1.out.at_ 0 _ rfl
  have y1 := HP1.out.at_ 1 _ rfl
  have ly := HP1.out.1
  have M0 := fun y => Ext.cell m0 y
  have M1 := fun y => Ext.cell m1 y
  have M2 := fun y => Ext.cell m2 y
  have Y0 := fun y => Ext.cell y0 y
  have Y1 := fun y => Ext.cell y1 y
  have LM := fun y : In (Ext v1) => Nat.lt_of_lt_of_le lm (Below.size y.h)
  have LB := fun y : In (Ext v1) => Nat.lt_of_lt_of_le ly (Below.size y.h)
  have HPX : Hid (∀ wx : World, Ext v1 wx → Calls Tryz.prog 48 #[.agg #[.slice (some ⟨pb, 0, none⟩) 2 pc, .slice none 0 0, .slice none 0 0], .agg #[.bool false, .string ⟨#[112]⟩]] wx fun e w' => e = .returned (.int .i64 0) ∧ Below wx.heap.size wx w') := fun wx hx => rfind_p 0 (by decide) pb pc wx (HP1.out.go hx)
  go_wp2_with fail
  haveI := Ext.nonempty v1
  refine wp_region_in (Ext v1) (by kernel_rfl) (by kernel_rfl) (Ext.start v1) ?_
  repeat (go_big_quiet_step ((go_at_call 48; refine Ext.call (HPX.out _ (In.h _)))))
  refine wpQuiet_nil ?_
  rintro v2 ⟨⟨_, h5⟩, rfl⟩
  have HB2 : Hid (Below w.heap.size w _) := hidIt (HB1.out.trans (Below.mono h5 HL1.out))
  have HL2 : Hid (w.heap.size ≤ _) := Nat.le_trans HL1.out (Below.size h5)
  have HP2 := hidIt (HP1.out.go h5)
  have HX2 := hidIt (blk_kept2 HX1.out h5)
  clear h5 M0 M1 M2 Y0 Y1 LM LB m0 m1 m2 lm y0 y1 ly HPX HB1 HL1 HP1 HX1
  obtain ⟨x0, x1, x2⟩ := base3 HX2.out
  have lx := lt_of_block HX2.out
  have p0 := HP2.out.at_ 5 _ rfl
  have p1 := HP2.out.at_ 6 _ rfl
  have p2 := HP2.out.at_ 7 _ rfl
  have p3 := HP2.out.at_ 8 _ rfl
  have p4 := HP2.out.at_ 9 _ rfl
  have lp := HP2.out.1
  go_wp2_with fail
  rw [rounds_succ]
  go_wp2_with fail
  refine (rpremise_ok true 2 (by decide) (by decide) _).mono ?_
  rintro e v3 ⟨rfl, hb⟩
  have HB3 := hidIt (HB2.out.trans (Below.mono hb HL2.out))
  have HL3 : Hid (w.heap.size ≤ v3.heap.size) := Nat.le_trans HL2.out hb.size
  have HP3 := hidIt (HP2.out.go hb)
  have HX3 := hidIt (blk_kept2 HX2.out hb)
  clear hb p0 p1 p2 p3 p4 x0 x1 x2 lx lp HB2 HL2 HP2 HX2
  obtain ⟨m0, m1, m2⟩ := base3 HX3.out
  have lm := lt_of_block HX3.out
  have y0 := HP3.out.at_ 5 _ rfl
  have y1 := HP3.out.at_ 6 _ rfl
  have ly := HP3.out.1
  have M0 := fun y => Ext.cell m0 y
  have M1 := fun y => Ext.cell m1 y
  have M2 := fun y => Ext.cell m2 y
  have Y0 := fun y => Ext.cell y0 y
  have Y1 := fun y => Ext.cell y1 y
  have LM := fun y : In (Ext v3) => Nat.lt_of_lt_of_le lm (Below.size y.h)
  have LB := fun y : In (Ext v3) => Nat.lt_of_lt_of_le ly (Below.size y.h)
  have HPX : Hid (∀ wx : World, Ext v3 wx → Calls Tryz.prog 48 #[.agg #[.slice (some ⟨pb, 0, none⟩) 2 pc, .slice none 0 0, .slice none 0 0], .agg #[.bool true, .string ⟨#[112]⟩]] wx fun e w' => e = .returned (.int .i64 1) ∧ Below wx.heap.size wx w') := fun wx hx => rfind_p 1 (by decide) pb pc wx (HP3.out.go hx)
  go_wp2_with fail
  haveI := Ext.nonempty v3
  refine wp_region_in (Ext v3) (by kernel_rfl) (by kernel_rfl) (Ext.start v3) ?_
  repeat (go_big_quiet_step ((go_at_call 48; refine Ext.call (HPX.out _ (In.h _)))))
  refine wpQuiet_nil ?_
  rintro v4 ⟨⟨_, h5⟩, rfl⟩
  have HB4 : Hid (Below w.heap.size w _) := hidIt (HB3.out.trans (Below.mono h5 HL3.out))
  have HL4 : Hid (w.heap.size ≤ _) := Nat.le_trans HL3.out (Below.size h5)
  have HP4 := hidIt (HP3.out.go h5)
  have HX4 := hidIt (blk_kept2 HX3.out h5)
  clear h5 M0 M1 M2 Y0 Y1 LM LB m0 m1 m2 lm y0 y1 ly HPX HB3 HL3 HP3 HX3
  obtain ⟨x0, x1, x2⟩ := base3 HX4.out
  have lx := lt_of_block HX4.out
  have p0 := HP4.out.at_ 5 _ rfl
  have p1 := HP4.out.at_ 6 _ rfl
  have p2 := HP4.out.at_ 7 _ rfl
  have p3 := HP4.out.at_ 8 _ rfl
  have p4 := HP4.out.at_ 9 _ rfl
  have lp := HP4.out.1
  go_wp2_with fail
  rw [rounds_succ]
  go_wp2_with fail
  refine wp_loop_rounds 1 ?_
  rw [rounds_succ]
  go_wp2_with fail
  refine wp_loop_rounds 1 ?_
  rw [rounds_succ]
  go_wp2_with fail
  go_ret
  exact ⟨rfl, HB4.out⟩

theorem infoA9 : (Tryz.prog.info? 72).map (fun i => (i.zero, i.size, i.bytes)) = some (some (.agg #[.int .i64 0, .int .i64 0, .slice none 0 0, .bool false, .string ⟨#[]⟩]), 5, 64) := by kernel_rfl
theorem elemA9 : ElemOf 59 72 5 64 := elem_of Tryz.underlying59 infoA9 rfl (by decide) (by decide)

set_option maxRecDepth 100000 in
set_option maxHeartbeats 2000000 in
theorem rbuild_two (pb pc : Nat) (w : World) (hp : CR w pb premC) :
    Calls Tryz.prog 17 #[.agg #[.slice (some ⟨pb, 0, none⟩) 2 pc, .slice none 0 0, .slice none 0 0]] w fun e w' => ∃ g c : Nat, e = .returned (.tuple #[.slice (some ⟨g, 0, none⟩) 2 c, .int .i64 0]) ∧ CR w' g argC ∧ Below w.heap.size w w' := by
  have hgr := bgrow w (.cells #[.slice (some ⟨pb, 0, none⟩) 2 pc, .slice none 0 0, .slice none 0 0] 58)
  have HB0 := hidIt hgr
  have HP0 := hidIt (hp.go hgr)
  have HX0 := hidIt (heap_alloc_new w (.cells #[.slice (some ⟨pb, 0, none⟩) 2 pc, .slice none 0 0, .slice none 0 0] 58))
  have HL0 : Hid (w.heap.size ≤ (w.alloc (.cells #[.slice (some ⟨pb, 0, none⟩) 2 pc, .slice none 0 0, .slice none 0 0] 58)).heap.size) := hgr.size
  have HN0 : Hid ((w.alloc (.cells #[.slice (some ⟨pb, 0, none⟩) 2 pc, .slice none 0 0, .slice none 0 0] 58)).heap.size = w.heap.size + 1) := by show _ = _; simp
  clear hgr hp
  go_enter Tryz.func17, Tryz.ntmps17
  go_upto_region 1 with (fail)
  generalize (w.alloc (.cells #[.slice (some ⟨pb, 0, none⟩) 2 pc, .slice none 0 0, .slice none 0 0] 58)) = v0 at *
  obtain ⟨x0, x1, x2⟩ := base3 HX0.out
  have lx := lt_of_block HX0.out
  go_wp2_with fail
  refine (rvalidate_two pb pc _ HP0.out).mono ?_
  rintro e v1 ⟨rfl, hb⟩
  have HB1 := hidIt (HB0.out.trans (Below.mono hb HL0.out))
  have HL1 : Hid (w.heap.size + 1 ≤ v1.heap.size) := by have := hb.size; have := HN0.out; show _ ≤ _; omega
  have HP1 := hidIt (HP0.out.go hb)
  have HX1 := hidIt (blk_kept2 HX0.out hb)
  clear hb x0 x1 x2 lx HB0 HL0 HP0 HX0
  obtain ⟨x0, x1, x2⟩ := base3 HX1.out
  have lx := lt_of_block HX1.out
  have p0 := HP1.out.at_ 0 _ rfl
  have p1 := HP1.out.at_ 1 _ rfl
  have lp := HP1.out.1
  go_wp2_with fail
  refine wp_loop_rounds 3 ?_
  rw [rounds_succ]
  go_wp2_with (at_builtin; refine Hid.out ?_)
  refine hidIt ?_
  refine wpList_append_kb rfl _ _ elemA9 rfl v1.heap.size (.slice none 0 0) 0 [] rfl (World.ownsRow_nil _ _ _ _) _ 1 rfl #[.int .i64 0, .int .i64 (-1), .slice none 0 0, .bool false, .string ⟨#[112]⟩] 72 (heap_alloc_new _ _) rfl (one_of (by rfl)) (by decide) (bgrow v1 (.cells #[.int .i64 0, .int .i64 (-1), .slice none 0 0, .bool false, .string ⟨#[112]⟩] 72)).size ?_
  intro g8 c8 v2 hown8 hg8 hbl8
  have hb8 : Below v1.heap.size v1 v2 := below_app5 (bgrow v1 (.cells #[.int .i64 0, .int .i64 (-1), .slice none 0 0, .bool false, .string ⟨#[112]⟩] 72)) hg8 (fun g e => by cases e) (by simp)
  have HO2 : Hid (v2.ownsRow v1.heap.size 72 5 (.slice (some ⟨g8, 0, none⟩) 1 c8) 1 ([] ++ (#[.int .i64 0, .int .i64 (-1), .slice none 0 0, .bool false, .string ⟨#[112]⟩] : Array Value).toList)) := hown8
  have HB2 := hidIt (HB1.out.trans (Below.mono hb8 (Nat.le_of_succ_le HL1.out)))
  have HP2 := hidIt (HP1.out.go hb8)
  have HX2 := hidIt (blk_kept2 HX1.out hb8)
  have HL2 : Hid (v1.heap.size ≤ v2.heap.size) := hb8.size
  clear hown8 hg8 hbl8 hb8 x0 x1 x2 lx p0 p1 lp HB1 HP1 HX1
  obtain ⟨x0, x1, x2⟩ := base3 HX2.out
  have lx := lt_of_block HX2.out
  have p5 := HP2.out.at_ 5 _ rfl
  have p6 := HP2.out.at_ 6 _ rfl
  have lp := HP2.out.1
  have hgr := bgrow v2 (.cells #[.int .i64 1, .int .i64 (-1), .slice none 0 0, .bool true, .string ⟨#[112]⟩] 72)
  have HO3 : Hid ((v2.alloc (.cells #[.int .i64 1, .int .i64 (-1), .slice none 0 0, .bool true, .string ⟨#[112]⟩] 72)).ownsRow v1.heap.size 72 5 (.slice (some ⟨g8, 0, none⟩) 1 c8) 1 ([] ++ (#[.int .i64 0, .int .i64 (-1), .slice none 0 0, .bool false, .string ⟨#[112]⟩] : Array Value).toList)) := owns_kept HO2.out fun g e => hgr.block g (owns_blk HO2.out g e).2
  have HL3 : Hid (v1.heap.size ≤ (v2.alloc (.cells #[.int .i64 1, .int .i64 (-1), .slice none 0 0, .bool true, .string ⟨#[112]⟩] 72)).heap.size) := Nat.le_trans HL2.out hgr.size
  have HP3 := hidIt (HP2.out.go hgr)
  have HX3 := hidIt (blk_kept2 HX2.out hgr)
  have HB3 := hidIt (HB2.out.trans (Below.mono hgr (Nat.le_trans (Nat.le_of_succ_le HL1.out) HL2.out)))
  clear hgr
  go_wp2_with fail
  rw [rounds_succ]
  go_wp2_with (at_builtin; refine Hid.out ?_)
  refine hidIt ?_
  refine wpList_append_kb rfl _ _ elemA9 rfl v1.heap.size (.slice (some ⟨g8, 0, none⟩) 1 c8) 1 _ rfl HO3.out _ 1 rfl #[.int .i64 1, .int .i64 (-1), .slice none 0 0, .bool true, .string ⟨#[112]⟩] 72 (heap_alloc_new _ _) rfl (one_of (by rfl)) (by decide) HL3.out ?_
  intro g9 c9 v4 hown9 hg9 hbl9
  have hg8' : v1.heap.size ≤ g8 := (owns_blk HO3.out g8 rfl).1
  have HB4 := hidIt (below_app5 HB3.out hg9 (fun g e => by injection e with e; have e : g8 = g := e; have := HL1.out; omega) (by have := HL1.out; have := HL3.out; omega))
  have HX4 : Hid (v4.heap[w.heap.size]? = _) := hidIt ((hg9.block w.heap.size (lt_of_block HX3.out) (fun e => by injection e with e; have e : w.heap.size = g8 := e; have := HL1.out; omega)).trans HX3.out)
  have HA4 : Hid (CR v4 g9 argC) := ⟨(owns_blk hown9 g9 rfl).2, fun j u hj => owns_cell hown9 rfl j u hj⟩
  clear hown9 hg9 hbl9 x0 x1 x2 lx p5 p6 lp
  obtain ⟨x0, x1, x2⟩ := base3 HX4.out
  have lx := lt_of_block HX4.out
  go_wp2_with fail
  rw [rounds_succ]
  go_wp2_with fail
  refine wp_loop_rounds 2 ?_
  rw [rounds_succ]
  go_wp2_with fail
  refine wp_loop_rounds 1 ?_
  rw [rounds_succ]
  go_wp2_with fail
  rw [rounds_succ]
  go_wp2_with fail
  go_returns
  exact ⟨g9, c9, rfl, HA4.out, HB4.out⟩
end Go.Proofs.YtplkkkkcmfgkfaaGreat
