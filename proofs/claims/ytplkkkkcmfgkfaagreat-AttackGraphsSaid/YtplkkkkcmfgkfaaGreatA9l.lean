/- lift.Less at the chapter's two arguments, by the last link, elitist. -/
import Derived.Test.YtplkkkkcmfgkfaaGreatA9g
import Derived.Test.YtplkkkkcmfgkfaaGreatA9i
namespace Go.Proofs.YtplkkkkcmfgkfaaGreat
set_option linter.unusedVariables false
set_option linter.unusedSimpArgs false
open Go Go.RowKit Go.Sort

theorem base3l {w : World} {P : Nat} {u v x : Value} {t : TypeId} (h : w.heap[P]? = some (.cells #[u, v, x] t (0, 0))) : w.cell? ⟨P, 0, none⟩ = some u ∧ w.cell? ⟨P, 1, none⟩ = some v ∧ w.cell? ⟨P, 2, none⟩ = some x := by
  refine ⟨?_, ?_, ?_⟩ <;> simp [World.cell?, h]

theorem Own1.but {w w' : World} {B : Nat} {v : Value} {z : Int} (h : Own1 w B v z) (hk : ∀ g, v.ownBlock = some g → w'.heap[g]? = w.heap[g]?) : Own1 w' B v z := owns_kept h hk
theorem strength_end {w : World} {B P : Nat} {v : Value} {z : Int} (h : Own1 w B v z) (hP : ∀ g, v.ownBlock = some g → g ≠ P) (a b c : Value) : Own1 (((w.setCell ⟨P, 0, none⟩ a).setCell ⟨P, 1, none⟩ b).setCell ⟨P, 2, none⟩ c) B v z :=
  h.but fun g e => (Below.heap_setCell _ ⟨P, 2, none⟩ c g (hP g e)).trans ((Below.heap_setCell _ ⟨P, 1, none⟩ b g (hP g e)).trans (Below.heap_setCell _ ⟨P, 0, none⟩ a g (hP g e)))

set_option maxRecDepth 100000 in
set_option maxHeartbeats 2000000 in
theorem strength_leaf (i : Int) (hi : i = 0 ∨ i = 1) (pb pc g c : Nat) (w : World) (h : CR w g argC) (hp : CR w pb premC) :
    Calls Tryz.prog 67 #[.agg #[.slice (some ⟨pb, 0, none⟩) 2 pc, .slice none 0 0, .slice none 0 0], .slice (some ⟨g, 0, none⟩) 2 c, .int .i64 i] w fun e w' => ∃ g' c' : Nat, e = .returned (.agg #[.slice (some ⟨g', 0, none⟩) 1 c', .slice none 0 0, .slice none 0 0]) ∧ Own1 w' w.heap.size (.slice (some ⟨g', 0, none⟩) 1 c') (i + 1) ∧ Below w.heap.size w w' := by
  have hg1 := bgrow w (.cells #[.slice (some ⟨pb, 0, none⟩) 2 pc, .slice none 0 0, .slice none 0 0] 58)
  have hg2 := bgrow (w.alloc (.cells #[.slice (some ⟨pb, 0, none⟩) 2 pc, .slice none 0 0, .slice none 0 0] 58)) (.cells #[.slice none 0 0, .slice none 0 0, .slice none 0 0] 123)
  have HB := hidIt (hg1.trans (Below.mono hg2 hg1.size))
  have H1 := hidIt ((h.go hg1).go hg2)
  have HP1 := hidIt ((hp.go hg1).go hg2)
  have HX := hidIt (blk_kept2 (heap_alloc_new w (.cells #[.slice (some ⟨pb, 0, none⟩) 2 pc, .slice none 0 0, .slice none 0 0] 58)) hg2)
  have hY := heap_alloc_new (w.alloc (.cells #[.slice (some ⟨pb, 0, none⟩) 2 pc, .slice none 0 0, .slice none 0 0] 58)) (.cells #[.slice none 0 0, .slice none 0 0, .slice none 0 0] 123)
  rw [World.size_alloc] at hY
  have HY := hidIt hY
  have HLE : Hid (w.heap.size + 1 < ((w.alloc (.cells #[.slice (some ⟨pb, 0, none⟩) 2 pc, .slice none 0 0, .slice none 0 0] 58)).alloc (.cells #[.slice none 0 0, .slice none 0 0, .slice none 0 0] 123)).heap.size) := lt_of_block hY
  clear hg1 hg2 hY h hp
  go_enter Tryz.func67, Tryz.ntmps67
  go_upto_region 1 with (fail)
  generalize ((w.alloc (.cells #[.slice (some ⟨pb, 0, none⟩) 2 pc, .slice none 0 0, .slice none 0 0] 58)).alloc (.cells #[.slice none 0 0, .slice none 0 0, .slice none 0 0] 123)) = w1 at *
  obtain ⟨x0, x1, x2⟩ := base3l HX.out; have lx := lt_of_block HX.out
  have HD := hidIt (RowKit.Below.drew (RowKit.Below.refl w1.heap.size w1))
  go_region_with (first
    | (go_at_call 95; refine (premRanks_leaf i hi pb pc g c _ (H1.out.go HD.out) (HP1.out.go HD.out)).mono ?_; rintro e w2 ⟨v, rfl, ho, hb⟩; have hb := RowKit.Below.trans HD.out hb; obtain ⟨g2, c2, hvv, -, -, -⟩ := ho.slice; subst hvv; have HNE : Hid (∀ gg, (Value.slice (some ⟨g2, 0, none⟩) 1 c2).ownBlock = some gg → gg ≠ w.heap.size + 1) := (fun gg e => by have h1 := (owns_blk ho gg e).1; have h2 : w1.heap.size ≤ gg := h1; have := HLE.out; omega); have HO2 := hidIt (ho.low (Nat.le_of_lt (Nat.lt_of_succ_lt HLE.out))); have HL2 : Hid (w.heap.size ≤ w2.heap.size) := Nat.le_trans (Nat.le_of_lt (Nat.lt_of_succ_lt HLE.out)) hb.size; have HB2 := hidIt (HB.out.trans (Below.mono hb (Nat.le_of_lt (Nat.lt_of_succ_lt HLE.out)))); have H2 := hidIt (H1.out.go hb); have HX2 := hidIt (blk_kept2 HX.out hb); have HY2 := hidIt (blk_kept2 HY.out hb); clear ho hb x0 x1 x2 lx; obtain ⟨x0, x1, x2⟩ := base3l HX2.out; have lx := lt_of_block HX2.out)
    | (go_at_call 96; refine (ruleRanks_leaf i hi _ pc g c _ H2.out).mono ?_; rintro e w3 ⟨rfl, hb⟩; have HO3 := hidIt (HO2.out.go hb); have HL3 : Hid (w.heap.size ≤ w3.heap.size) := Nat.le_trans HL2.out hb.size; have HB3 := hidIt (HB2.out.trans (Below.mono hb HL2.out)); have H3 := hidIt (H2.out.go hb); have HX3 := hidIt (blk_kept2 HX2.out hb); have HY3 := hidIt (blk_kept2 HY2.out hb); clear hb x0 x1 x2 lx; obtain ⟨x0, x1, x2⟩ := base3l HX3.out; have lx := lt_of_block HX3.out)
    | (go_at_call 97; refine (lastRanks_leaf i hi _ pc g c _ H3.out).mono ?_; rintro e w4 ⟨rfl, hb⟩; have HO4 := hidIt (HO3.out.go hb); have HB4 := hidIt (HB3.out.trans (Below.mono hb HL3.out)); have HY4 := hidIt (blk_kept2 HY3.out hb); clear hb x0 x1 x2 lx; obtain ⟨z0, z1, z2⟩ := base3l HY4.out; have lz := lt_of_block HY4.out; have f0 := free_any HY4.out 0; have f1 := free_any HY4.out 1; have f2 := free_any HY4.out 2))
  all_goals (try go_wp2_with fail)
  all_goals (
    refine bodyPost_ret (v := .agg #[.slice (some ⟨g2, 0, none⟩) 1 c2, .slice none 0 0, .slice none 0 0]) (by simp [results, Tryz.results67, go_sem, z0, z1, z2, lz]) rfl ?_
    exact ⟨g2, c2, rfl, strength_end HO4.out HNE.out _ _ _, by repeat (first | exact HB4.out | refine below_set5 ?_ (Nat.le_succ _))⟩)
end Go.Proofs.YtplkkkkcmfgkfaaGreat
