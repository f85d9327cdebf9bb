/- The ranks of the premises, and whether an argument assumes. -/
import Derived.Test.YtplkkkkcmfgkfaaGreatA9h
namespace Go.Proofs.YtplkkkkcmfgkfaaGreat
set_option linter.unusedVariables false
set_option linter.unusedSimpArgs false
open Go Go.RowKit Go.Sort

set_option maxHeartbeats 1000000 in
theorem premRanks_leaf (i : Int) (hi : i = 0 ∨ i = 1) (pb pc g c : Nat) (w : World) (h : CR w g argC) (hp : CR w pb premC) :
    Calls Tryz.prog 95 #[.agg #[.slice (some ⟨pb, 0, none⟩) 2 pc, .slice none 0 0, .slice none 0 0], .slice (some ⟨g, 0, none⟩) 2 c, .int .i64 i] w fun e w' => ∃ v, e = .returned v ∧ Own1 w' w.heap.size v (i + 1) ∧ Below w.heap.size w w' := by
  have hgr := bgrow w (.cells #[.slice (some ⟨pb, 0, none⟩) 2 pc, .slice none 0 0, .slice none 0 0] 58)
  have HB := hidIt hgr
  have H1 := hidIt (h.go hgr)
  have HP1 := hidIt (hp.go hgr)
  have HX := hidIt (heap_alloc_new w (.cells #[.slice (some ⟨pb, 0, none⟩) 2 pc, .slice none 0 0, .slice none 0 0] 58))
  have HLE : Hid (w.heap.size ≤ (w.alloc (.cells #[.slice (some ⟨pb, 0, none⟩) 2 pc, .slice none 0 0, .slice none 0 0] 58)).heap.size) := hgr.size
  clear hgr h hp
  go_enter Tryz.func95, Tryz.ntmps95
  go_upto_region 1 with (fail)
  generalize (w.alloc (.cells #[.slice (some ⟨pb, 0, none⟩) 2 pc, .slice none 0 0, .slice none 0 0] 58)) = w1 at *
  have x0 : w1.cell? ⟨w.heap.size, 0, none⟩ = some (.slice (some ⟨pb, 0, none⟩) 2 pc) := by simp [World.cell?, HX.out]
  have x1 : w1.cell? ⟨w.heap.size, 1, none⟩ = some (.slice none 0 0) := by simp [World.cell?, HX.out]
  have x2 : w1.cell? ⟨w.heap.size, 2, none⟩ = some (.slice none 0 0) := by simp [World.cell?, HX.out]
  have lx := lt_of_block HX.out
  go_wp2_with fail
  refine (premisesOf_leaf i hi pb pc g c _ H1.out HP1.out).mono ?_
  rintro e w2 ⟨v, rfl, ho, hb⟩
  obtain ⟨gv, cv, rfl, -, hc⟩ := ho.slice
  have HB2 := hidIt (HB.out.trans (Below.mono hb HLE.out))
  have HL2 : Hid (w.heap.size ≤ w2.heap.size) := Nat.le_trans HLE.out hb.size
  clear ho hb x0 x1 x2 lx
  have p0 := hc.at_ 0 _ rfl
  have p1 := hc.at_ 1 _ rfl
  have p2 := hc.at_ 2 _ rfl
  have p3 := hc.at_ 3 _ rfl
  have p4 := hc.at_ 4 _ rfl
  have lp := hc.1
  have hgr := bgrow w2 (.cells #[.bool (decide (i = 1)), .string ⟨#[112]⟩, .int .i64 2, .int .i64 (i + 1), .string ⟨#[]⟩] 53)
  have HX3 := hidIt (heap_alloc_new w2 (.cells #[.bool (decide (i = 1)), .string ⟨#[112]⟩, .int .i64 2, .int .i64 (i + 1), .string ⟨#[]⟩] 53))
  have HB3 := hidIt (HB2.out.trans (Below.mono hgr HL2.out))
  have HL3 : Hid (w.heap.size ≤ (w2.alloc (.cells #[.bool (decide (i = 1)), .string ⟨#[112]⟩, .int .i64 2, .int .i64 (i + 1), .string ⟨#[]⟩] 53)).heap.size) := Nat.le_trans HL2.out hgr.size
  clear hgr hc
  generalize decide (i = 1) = gb at *
  generalize hr : i + 1 = rk at *
  go_wp2_with fail
  refine wp_loop_rounds 2 ?_
  rw [rounds_succ]
  go_upto_region 5 with (fail)
  generalize (w2.alloc (.cells #[.bool gb, .string ⟨#[112]⟩, .int .i64 2, .int .i64 rk, .string ⟨#[]⟩] 53)) = w3 at *
  have x1 : w3.cell? ⟨w2.heap.size, 1, none⟩ = some (.string ⟨#[112]⟩) := by simp [World.cell?, HX3.out]
  have x2 : w3.cell? ⟨w2.heap.size, 2, none⟩ = some (.int .i64 2) := by simp [World.cell?, HX3.out]
  have x3 : w3.cell? ⟨w2.heap.size, 3, none⟩ = some (.int .i64 rk) := by simp [World.cell?, HX3.out]
  have lx := lt_of_block HX3.out
  go_wp2_with (at_builtin; refine Hid.out ?_)
  refine hidIt ?_
  refine wpList_append_kb rfl _ _ elemI rfl w3.heap.size (.slice none 0 0) 0 [] rfl (World.ownsRow_nil _ _ _ _) _ 1 rfl #[.int .i64 rk] 3 (heap_alloc_new _ _) rfl (one_of (by rfl)) (by decide) (bgrow w3 (.cells #[.int .i64 rk] 3)).size ?_
  intro g8 c8 w8 hown8 hg8 hbl8
  have hb8 : Below w3.heap.size w3 w8 := below_app5 (bgrow w3 (.cells #[.int .i64 rk] 3)) hg8 (fun g e => by cases e) (by simp)
  have HB8 := hidIt (HB3.out.trans (Below.mono hb8 HL3.out))
  have HO8 : Hid (Own1 w8 w3.heap.size (.slice (some ⟨g8, 0, none⟩) 1 c8) rk) := hown8
  clear hown8 hg8 hbl8 hb8
  go_wp2_with fail
  rw [rounds_succ]
  go_wp2_with fail
  go_ret
  exact ⟨_, rfl, (by have h := HO8.out.low HL3.out; rw [← hr] at h; exact h), HB8.out⟩

theorem assumes1_leaf (gb : Bool) (s t : ByteArray) (rk : Int) (w : World) :
    Calls Tryz.prog 89 #[.agg #[.bool gb, .string s, .int .i64 2, .int .i64 rk, .string t]] w fun e w' => e = .returned (.bool false) ∧ Below w.heap.size w w' := by
  have HB := hidIt (bgrow w (.cells #[.bool gb, .string s, .int .i64 2, .int .i64 rk, .string t] 53))
  have HX := hidIt (heap_alloc_new w (.cells #[.bool gb, .string s, .int .i64 2, .int .i64 rk, .string t] 53))
  go_enter Tryz.func89, Tryz.ntmps89
  go_upto_region 1 with (fail)
  generalize (w.alloc (.cells #[.bool gb, .string s, .int .i64 2, .int .i64 rk, .string t] 53)) = w1 at *
  have x2 : w1.cell? ⟨w.heap.size, 2, none⟩ = some (.int .i64 2) := by simp [World.cell?, HX.out]
  have lx := lt_of_block HX.out
  go_wp2_with fail
  go_ret
  exact ⟨rfl, HB.out⟩

theorem idxPrem9_leaf (i : Int) (v : Value) (B : Nat) (w : World) (hv : OwnPm1 w B v i) :
    Calls Tryz.prog 103 #[v, .func (Fn.func 89) #[] #[]] w fun e w' => e = .returned (.int .i64 (-1)) ∧ Below w.heap.size w w' := by
  obtain ⟨gv, cv, rfl, -, hc⟩ := hv.slice
  have p0 := hc.at_ 0 _ rfl
  have p1 := hc.at_ 1 _ rfl
  have p2 := hc.at_ 2 _ rfl
  have p3 := hc.at_ 3 _ rfl
  have p4 := hc.at_ 4 _ rfl
  have lp := hc.1
  clear hc hv
  generalize decide (i = 1) = gb at *
  generalize hr : i + 1 = rk at *
  go_enter Tryz.func103, Tryz.ntmps103
  go_wp2_with fail
  refine wp_loop_rounds 2 ?_
  rw [rounds_succ]
  go_wp2_with fail
  refine (assumes1_leaf gb _ _ rk _).mono ?_
  rintro e w1 ⟨rfl, hb⟩
  have HB := hidIt hb
  clear hb
  go_wp2_with fail
  rw [rounds_succ]
  go_wp2_with fail
  go_ret
  exact ⟨rfl, HB.out⟩

theorem anyPrem9_leaf (i : Int) (v : Value) (B : Nat) (w : World) (hv : OwnPm1 w B v i) :
    Calls Tryz.prog 90 #[v, .func (Fn.func 89) #[] #[]] w fun e w' => e = .returned (.bool false) ∧ Below w.heap.size w w' := by
  obtain ⟨gv, cv, hvv, -, -⟩ := hv.slice
  subst hvv
  have HV := hidIt hv
  clear hv
  go_enter Tryz.func90, Tryz.ntmps90
  go_wp2_with fail
  refine (idxPrem9_leaf i _ B _ HV.out).mono ?_
  rintro e w1 ⟨rfl, hb⟩
  have HB := hidIt hb
  clear hb
  go_wp2_with fail
  go_ret
  exact ⟨rfl, HB.out⟩

set_option maxHeartbeats 1000000 in
theorem assumes_leaf (i : Int) (hi : i = 0 ∨ i = 1) (pb pc g c : Nat) (w : World) (h : CR w g argC) (hp : CR w pb premC) :
    Calls Tryz.prog 62 #[.agg #[.slice (some ⟨pb, 0, none⟩) 2 pc, .slice none 0 0, .slice none 0 0], .slice (some ⟨g, 0, none⟩) 2 c, .int .i64 i] w fun e w' => e = .returned (.bool false) ∧ Below w.heap.size w w' := by
  have hgr := bgrow w (.cells #[.slice (some ⟨pb, 0, none⟩) 2 pc, .slice none 0 0, .slice none 0 0] 58)
  have HB := hidIt hgr
  have H1 := hidIt (h.go hgr)
  have HP1 := hidIt (hp.go hgr)
  have HX := hidIt (heap_alloc_new w (.cells #[.slice (some ⟨pb, 0, none⟩) 2 pc, .slice none 0 0, .slice none 0 0] 58))
  have HLE : Hid (w.heap.size ≤ (w.alloc (.cells #[.slice (some ⟨pb, 0, none⟩) 2 pc, .slice none 0 0, .slice none 0 0] 58)).heap.size) := hgr.size
  clear hgr h hp
  go_enter Tryz.func62, Tryz.ntmps62
  go_upto_region 1 with (fail)
  generalize (w.alloc (.cells #[.slice (some ⟨pb, 0, none⟩) 2 pc, .slice none 0 0, .slice none 0 0] 58)) = w1 at *
  have x0 : w1.cell? ⟨w.heap.size, 0, none⟩ = some (.slice (some ⟨pb, 0, none⟩) 2 pc) := by simp [World.cell?, HX.out]
  have x1 : w1.cell? ⟨w.heap.size, 1, none⟩ = some (.slice none 0 0) := by simp [World.cell?, HX.out]
  have x2 : w1.cell? ⟨w.heap.size, 2, none⟩ = some (.slice none 0 0) := by simp [World.cell?, HX.out]
  have lx := lt_of_block HX.out
  go_wp2_with fail
  refine (premisesOf_leaf i hi pb pc g c _ H1.out HP1.out).mono ?_
  rintro e w2 ⟨v, rfl, ho, hb⟩
  have HO := hidIt ho
  have HB2 := hidIt (HB.out.trans (Below.mono hb HLE.out))
  have HL2 : Hid (w.heap.size ≤ w2.heap.size) := Nat.le_trans HLE.out hb.size
  clear ho hb x0 x1 x2 lx
  go_wp2_with fail
  refine (anyPrem9_leaf i v _ _ HO.out).mono ?_
  rintro e w3 ⟨rfl, hb⟩
  have HB3 := hidIt (HB2.out.trans (Below.mono hb HL2.out))
  go_wp2_with fail
  go_ret
  exact ⟨rfl, HB3.out⟩
end Go.Proofs.YtplkkkkcmfgkfaaGreat
