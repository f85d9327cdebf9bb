/- lift.Less at the chapter's two arguments. -/
import Derived.Test.YtplkkkkcmfgkfaaGreatA9l
namespace Go.Proofs.YtplkkkkcmfgkfaaGreat
set_option linter.unusedVariables false
set_option linter.unusedSimpArgs false
open Go Go.RowKit Go.Sort

set_option maxRecDepth 100000 in
set_option maxHeartbeats 2000000 in
theorem less_leaf (i k : Int) (hi : i = 0 ∨ i = 1) (hk : k = 0 ∨ k = 1) (pb pc g c : Nat) (w : World) (h : CR w g argC) (hp : CR w pb premC) :
    Calls Tryz.prog 34 #[.agg #[.slice (some ⟨pb, 0, none⟩) 2 pc, .slice none 0 0, .slice none 0 0], .slice (some ⟨g, 0, none⟩) 2 c, .int .i64 i, .int .i64 k, .agg #[.int .i64 1, .int .i64 1]] w fun e w' => e = .returned (.bool (decide (i + 1 < k + 1))) ∧ Below w.heap.size w w' := by
  obtain ⟨R, hR⟩ : ∃ R, R = decide (i + 1 < k + 1) := ⟨_, rfl⟩
  have HR := hidIt hR
  rw [← hR]
  clear hR
  have hg1 := bgrow w (.cells #[.slice (some ⟨pb, 0, none⟩) 2 pc, .slice none 0 0, .slice none 0 0] 58)
  have hg2 := bgrow (w.alloc (.cells #[.slice (some ⟨pb, 0, none⟩) 2 pc, .slice none 0 0, .slice none 0 0] 58)) (.cells #[.int .i64 1, .int .i64 1] 65)
  have HB := hidIt (hg1.trans (Below.mono hg2 hg1.size))
  have H1 := hidIt ((h.go hg1).go hg2)
  have HP1 := hidIt ((hp.go hg1).go hg2)
  have HX := hidIt (blk_kept2 (heap_alloc_new w (.cells #[.slice (some ⟨pb, 0, none⟩) 2 pc, .slice none 0 0, .slice none 0 0] 58)) hg2)
  have hM := CR.new (w.alloc (.cells #[.slice (some ⟨pb, 0, none⟩) 2 pc, .slice none 0 0, .slice none 0 0] 58)) [.int .i64 1, .int .i64 1] 65
  rw [World.size_alloc, show ([Value.int .i64 1, .int .i64 1].toArray : Array Value) = #[.int .i64 1, .int .i64 1] from rfl] at hM
  have HM := hidIt hM
  have HLE : Hid (w.heap.size ≤ ((w.alloc (.cells #[.slice (some ⟨pb, 0, none⟩) 2 pc, .slice none 0 0, .slice none 0 0] 58)).alloc (.cells #[.int .i64 1, .int .i64 1] 65)).heap.size) := Nat.le_trans hg1.size hg2.size
  clear hg1 hg2 hM h hp
  go_enter Tryz.func34, Tryz.ntmps34
  go_upto_region 1 with (fail)
  generalize ((w.alloc (.cells #[.slice (some ⟨pb, 0, none⟩) 2 pc, .slice none 0 0, .slice none 0 0] 58)).alloc (.cells #[.int .i64 1, .int .i64 1] 65)) = w1 at *
  obtain ⟨x0, x1, x2⟩ := base3l HX.out
  have lx := lt_of_block HX.out
  go_wp2_with fail
  refine (liIdx_any i 2 _).mono ?_
  rintro e w2 ⟨rfl, rfl⟩
  rw [show ixB i 2 = true by rcases hi with rfl | rfl <;> rfl]
  go_wp2_with fail
  refine (liIdx_any k 2 _).mono ?_
  rintro e w3 ⟨rfl, rfl⟩
  rw [show ixB k 2 = true by rcases hk with rfl | rfl <;> rfl]
  go_wp2_with fail
  refine (assumes_leaf k hk pb pc g c _ H1.out HP1.out).mono ?_
  rintro e w4 ⟨rfl, hb⟩
  have HB4 := hidIt (HB.out.trans (Below.mono hb HLE.out))
  have HL4 : Hid (w.heap.size ≤ w4.heap.size) := Nat.le_trans HLE.out hb.size
  have H4 := hidIt (H1.out.go hb)
  have HP4 := hidIt (HP1.out.go hb)
  have HX4 := hidIt (blk_kept2 HX.out hb)
  have HM4 := hidIt (HM.out.go hb)
  clear hb x0 x1 x2 lx HB HLE H1 HP1 HX HM
  obtain ⟨x0, x1, x2⟩ := base3l HX4.out
  have lx := lt_of_block HX4.out
  have y0 := HM4.out.at_ 0 _ rfl
  have ly := HM4.out.1
  have HD := hidIt (RowKit.Below.drew (RowKit.Below.refl w4.heap.size w4))
  go_upto_region 11 with (fail)
  go_region_with (first
    | (go_at_call 67; refine (strength_leaf i hi pb pc g c _ (H4.out.go HD.out) (HP4.out.go HD.out)).mono ?_; rintro e w5 ⟨g5, c5, rfl, ho, hb⟩; have tok1 : True := trivial; have hb := RowKit.Below.trans HD.out hb; have HO5 := hidIt (ho.low HL4.out); have HL5 : Hid (w.heap.size ≤ w5.heap.size) := Nat.le_trans HL4.out hb.size; have HB5 := hidIt (HB4.out.trans (Below.mono hb HL4.out)); have H5 := hidIt (H4.out.go hb); have HP5 := hidIt (HP4.out.go hb); have HX5 := hidIt (blk_kept2 HX4.out hb); have HM5 := hidIt (HM4.out.go hb); clear ho hb x0 x1 x2 lx y0 ly H4 HD HP4; obtain ⟨x0, x1, x2⟩ := base3l HX5.out; have lx := lt_of_block HX5.out)
    | (go_at_call 67; refine (strength_leaf k hk pb pc g c _ H5.out HP5.out).mono ?_; rintro e w6 ⟨g6, c6, rfl, ho, hb⟩; have HO6 := hidIt (HO5.out.go hb); have HQ6 := hidIt (ho.low HL5.out); have HL6 : Hid (w.heap.size ≤ w6.heap.size) := Nat.le_trans HL5.out hb.size; have HB6 := hidIt (HB5.out.trans (Below.mono hb HL5.out)); have HM6 := hidIt (HM5.out.go hb); clear ho hb x0 x1 x2 lx)
    | (go_at_call 63; refine (lastLink_one _ _ _ _ (i + 1) (k + 1) _ _ HO6.out HQ6.out HM6.out).mono ?_; rintro e w7 ⟨he, hb⟩; rw [← HR.out] at he; subst he; have HB7 := hidIt (HB6.out.trans (Below.mono hb HL6.out)); clear hb))
  all_goals (try go_wp2_with fail)
  all_goals (try go_ret)
  all_goals exact ⟨rfl, HB7.out⟩
end Go.Proofs.YtplkkkkcmfgkfaaGreat
