/- awake: the chapter's examples answer true, in whatever memory the library's table lies. -/
import Derived.Test.YtcelijjohcfhkaaDoorG1F
namespace Go.Proofs.YtcelijjohcfhkaaDoor
set_option linter.unusedVariables false
set_option linter.unusedSimpArgs false
open Go Go.RowKit Go.Sort

theorem pairs_blk {w : World} {b c : Nat} {ps : List (Int × Int)} {t : TypeId} (h : w.heap[b]? = some (.cells (ps.flatMap encP).toArray t (0, 0))) (hc : ps.length ≤ c) (hm : c ≤ maxLen) : PairsAt w (.slice (some ⟨b, 0, none⟩) ps.length c) ps := by
  refine .inr ⟨b, 0, c, rfl, hc, hm, lt_of_block h, fun i hi => ?_⟩
  have e0 := flatMap_get ps (i * 2) (by omega)
  have e1 := flatMap_get ps (i * 2 + 1) (by omega)
  rw [show i * 2 / 2 = i by omega, show i * 2 % 2 = 0 by omega] at e0
  rw [show (i * 2 + 1) / 2 = i by omega, show (i * 2 + 1) % 2 = 1 by omega] at e1
  constructor
  · simp [World.cell?, h, e0, encP]
  · simp [World.cell?, h, e1, encP]
theorem ints_blk {w : World} {b c : Nat} {zs : List Int} {t : TypeId} (h : w.heap[b]? = some (.cells (zs.map (Value.int .i64)).toArray t (0, 0))) (hc : zs.length ≤ c) (hm : c ≤ maxLen) : IL w (.slice (some ⟨b, 0, none⟩) zs.length c) zs :=
  .inr ⟨b, 0, c, rfl, hc, hm, lt_of_block h, fun i hi => by simp [World.cell?, h, hi]⟩

/-- The three lists of the example, as the law lays them. -/
theorem lits3 (w : World) : LL ((((w.alloc (.cells #[.int .i64 0, .int .i64 1] 3)).alloc (.cells #[.int .i64 2] 3)).alloc (.cells #[.int .i64 3] 3)).alloc (.cells #[.slice (some ⟨w.heap.size, 0, none⟩) 2 2, .slice (some ⟨w.heap.size + 1, 0, none⟩) 1 1, .slice (some ⟨w.heap.size + 1 + 1, 0, none⟩) 1 1] 25)) (.slice (some ⟨w.heap.size + 1 + 1 + 1, 0, none⟩) 3 3) [[0, 1], [2], [3]] ∧
    Below w.heap.size w ((((w.alloc (.cells #[.int .i64 0, .int .i64 1] 3)).alloc (.cells #[.int .i64 2] 3)).alloc (.cells #[.int .i64 3] 3)).alloc (.cells #[.slice (some ⟨w.heap.size, 0, none⟩) 2 2, .slice (some ⟨w.heap.size + 1, 0, none⟩) 1 1, .slice (some ⟨w.heap.size + 1 + 1, 0, none⟩) 1 1] 25)) := by
  have g1 := bgrow w (.cells #[.int .i64 0, .int .i64 1] 3)
  have i1 := ints_blk (zs := [0, 1]) (c := 2) (heap_alloc_new w (.cells #[.int .i64 0, .int .i64 1] 3)) (by decide) (by decide)
  have s1 : (w.alloc (.cells #[.int .i64 0, .int .i64 1] 3)).heap.size = w.heap.size + 1 := World.size_alloc ..
  generalize w.alloc (.cells #[.int .i64 0, .int .i64 1] 3) = w1 at *
  have g2 := bgrow w1 (.cells #[.int .i64 2] 3)
  have i2 := ints_blk (zs := [2]) (c := 1) (heap_alloc_new w1 (.cells #[.int .i64 2] 3)) (by decide) (by decide)
  have s2 : (w1.alloc (.cells #[.int .i64 2] 3)).heap.size = w1.heap.size + 1 := World.size_alloc ..
  have i12 := i1.below g2
  generalize w1.alloc (.cells #[.int .i64 2] 3) = w2 at *
  have g3 := bgrow w2 (.cells #[.int .i64 3] 3)
  have i3 := ints_blk (zs := [3]) (c := 1) (heap_alloc_new w2 (.cells #[.int .i64 3] 3)) (by decide) (by decide)
  have s3 : (w2.alloc (.cells #[.int .i64 3] 3)).heap.size = w2.heap.size + 1 := World.size_alloc ..
  have i13 := i12.below g3
  have i23 := i2.below g3
  generalize w2.alloc (.cells #[.int .i64 3] 3) = w3 at *
  rw [s2, s1] at i3
  rw [s1] at i23
  have g4 := bgrow w3 (.cells #[.slice (some ⟨w.heap.size, 0, none⟩) 2 2, .slice (some ⟨w.heap.size + 1, 0, none⟩) 1 1, .slice (some ⟨w.heap.size + 1 + 1, 0, none⟩) 1 1] 25)
  have h4 := heap_alloc_new w3 (.cells #[.slice (some ⟨w.heap.size, 0, none⟩) 2 2, .slice (some ⟨w.heap.size + 1, 0, none⟩) 1 1, .slice (some ⟨w.heap.size + 1 + 1, 0, none⟩) 1 1] 25)
  rw [s3, s2, s1] at h4
  refine ⟨.inr ⟨w.heap.size + 1 + 1 + 1, 0, 3, rfl, by decide, by decide, lt_of_block h4, fun i hi => ?_⟩, g1.trans (Below.mono (g2.trans (Below.mono (g3.trans (Below.mono g4 g3.size)) g2.size)) g1.size)⟩
  match i, hi with
  | 0, _ => exact ⟨_, by simp [World.cell?, h4], i13.below g4⟩
  | 1, _ => exact ⟨_, by simp [World.cell?, h4], i23.below g4⟩
  | 2, _ => exact ⟨_, by simp [World.cell?, h4], i3.below g4⟩

set_option maxRecDepth 100000 in
set_option maxHeartbeats 4000000 in
theorem awake10 (w : World) (hT : Tab w) : Calls Tryd.prog 17 #[] w fun e w' => e = .returned (.bool true) ∧ Below w.heap.size w w' := by
  have HT := hidIt hT
  have hg1 := bgrow w (.cells #[.int .i64 0, .int .i64 1, .int .i64 1, .int .i64 0, .int .i64 1, .int .i64 2, .int .i64 3, .int .i64 3] 43)
  have hP1 := pairs_blk (ps := exP) (c := 4) (heap_alloc_new w (.cells #[.int .i64 0, .int .i64 1, .int .i64 1, .int .i64 0, .int .i64 1, .int .i64 2, .int .i64 3, .int .i64 3] 43)) (by decide) (by decide)
  have hg2 := bgrow (w.alloc (.cells #[.int .i64 0, .int .i64 1, .int .i64 1, .int .i64 0, .int .i64 1, .int .i64 2, .int .i64 3, .int .i64 3] 43)) (.cells #[.int .i64 4, .slice (some ⟨w.heap.size, 0, none⟩) 4 4] 24)
  have HP2 : Hid (PairsAt ((w.alloc (.cells #[.int .i64 0, .int .i64 1, .int .i64 1, .int .i64 0, .int .i64 1, .int .i64 2, .int .i64 3, .int .i64 3] 43)).alloc (.cells #[.int .i64 4, .slice (some ⟨w.heap.size, 0, none⟩) 4 4] 24)) (.slice (some ⟨w.heap.size, 0, none⟩) 4 4) exP) := hP1.below hg2
  have hX2 := heap_alloc_new (w.alloc (.cells #[.int .i64 0, .int .i64 1, .int .i64 1, .int .i64 0, .int .i64 1, .int .i64 2, .int .i64 3, .int .i64 3] 43)) (.cells #[.int .i64 4, .slice (some ⟨w.heap.size, 0, none⟩) 4 4] 24)
  rw [World.size_alloc] at hX2
  have HX2 := hidIt hX2
  have HB2 := hidIt (hg1.trans (Below.mono hg2 hg1.size))
  clear hg1 hP1 hg2 hX2 hT
  go_enter Tryd.func17, Tryd.ntmps17
  go_upto_region 2 with (fail)
  generalize ((w.alloc (.cells #[.int .i64 0, .int .i64 1, .int .i64 1, .int .i64 0, .int .i64 1, .int .i64 2, .int .i64 3, .int .i64 3] 43)).alloc (.cells #[.int .i64 4, .slice (some ⟨w.heap.size, 0, none⟩) 4 4] 24)) = w2 at *
  obtain ⟨P, hP⟩ : ∃ P, P = w.heap.size + 1 := ⟨_, rfl⟩
  rw [← hP] at HX2 ⊢
  clear hP
  obtain ⟨Q, hQ⟩ : ∃ Q, Q = w.heap.size := ⟨_, rfl⟩
  rw [← hQ] at HX2 HP2 ⊢
  have HQ := hidIt hQ
  clear hQ
  obtain ⟨x0, x1⟩ := And.intro (cell_two0 HX2.out) (cell_two1 HX2.out)
  have lx := lt_of_block HX2.out
  have hg3 := bgrow w2 (.cells #[.int .i64 2, .int .i64 1] 3)
  have HI3 := hidIt (ints_blk (zs := [2, 1]) (c := 2) (heap_alloc_new w2 (.cells #[.int .i64 2, .int .i64 1] 3)) (by decide) (by decide))
  have HP3 := hidIt (HP2.out.below hg3)
  have HX3 := hidIt (blk_kept2 HX2.out hg3)
  have HB3 := hidIt (HB2.out.trans (Below.mono hg3 HB2.out.size))
  clear hg3
  go_wp2_with fail
  refine (gInduced_any 4 _ _ exP [2, 1] _ HP3.out (by decide) HI3.out (by decide)).mono ?_
  rw [ex_vN, ex_vL, ex_indN, ex_indL]
  rintro e w4 ⟨v4, rfl, hp4o, hb4⟩
  have hp4 := hp4o.lits
  clear hp4o
  obtain ⟨a4, c4, rfl, -⟩ := hp4.form
  have hg5 := bgrow w4 (.cells #[.int .i64 2, .slice a4 1 c4] 24)
  have HH5 : Hid (PairsAt (w4.alloc (.cells #[.int .i64 2, .slice a4 1 c4] 24)) (.slice a4 1 c4) [(0, 1)]) := hp4.below hg5
  have HP5 := hidIt ((HP3.out.below hb4).below hg5)
  have HX5 := hidIt (blk_kept2 (blk_kept2 HX3.out hb4) hg5)
  have HY5 := hidIt (heap_alloc_new w4 (.cells #[.int .i64 2, .slice a4 1 c4] 24))
  have HB5 := hidIt ((HB3.out.trans (Below.mono hb4 HB3.out.size)).trans (Below.mono hg5 (Nat.le_trans HB3.out.size hb4.size)))
  clear hp4 hb4 hg5 HP3 HX3 HB3 HI3 HP2 HX2 HB2 x0 x1 lx
  go_upto_region 3 with (fail)
  generalize (w4.alloc (.cells #[.int .i64 2, .slice a4 1 c4] 24)) = w5 at *
  generalize w4.heap.size = R at *
  obtain ⟨x0, x1⟩ := And.intro (cell_two0 HX5.out) (cell_two1 HX5.out)
  have lx := lt_of_block HX5.out
  go_wp2_with fail
  refine (gValidate_any 4 _ exP _ HP5.out (by decide)).mono ?_
  rw [ex_val]
  rintro e w6 ⟨rfl, hb6⟩
  have HP6 := hidIt (HP5.out.below hb6)
  have HH6 := hidIt (HH5.out.below hb6)
  have HX6 := hidIt (blk_kept2 HX5.out hb6)
  have HY6 := hidIt (blk_kept2 HY5.out hb6)
  have HB6 := hidIt (HB5.out.trans (Below.mono hb6 HB5.out.size))
  have HT6 := hidIt (HT.out.go HB6.out)
  clear hb6 HP5 HH5 HX5 HY5 HB5 x0 x1 lx
  obtain ⟨x0, x1⟩ := And.intro (cell_two0 HX6.out) (cell_two1 HX6.out)
  have lx := lt_of_block HX6.out
  go_wp2_with fail
  refine (gComponents_any 4 _ exP [3#64, 4#64, 8#64] _ HP6.out (by decide) HT6.out (by rw [ex_vN, ex_vL]; exact ex_comp)).mono ?_
  rw [ex_lists]
  rintro e w7 ⟨v7, rfl, hl7, hb7⟩
  obtain ⟨a7, c7, rfl, -⟩ := hl7.lc
  have HL7 := hidIt hl7
  have HP7 := hidIt (HP6.out.below hb7)
  have HH7 := hidIt (HH6.out.below hb7)
  have HX7 := hidIt (blk_kept2 HX6.out hb7)
  have HY7 := hidIt (blk_kept2 HY6.out hb7)
  have HB7 := hidIt (HB6.out.trans (Below.mono hb7 HB6.out.size))
  clear hb7 hl7 HP6 HH6 HX6 HY6 HB6 x0 x1 lx
  obtain ⟨hll, hbb⟩ := lits3 w7
  have HLL8 := hidIt hll
  have HL8 := hidIt (HL7.out.below hbb)
  have HP8 := hidIt (HP7.out.below hbb)
  have HH8 := hidIt (HH7.out.below hbb)
  have HX8 := hidIt (blk_kept2 HX7.out hbb)
  have HY8 := hidIt (blk_kept2 HY7.out hbb)
  have HB8 := hidIt (HB7.out.trans (Below.mono hbb HB7.out.size))
  clear hll hbb HL7 HP7 HH7 HX7 HY7 HB7
  go_wp2_with fail
  generalize ((((w7.alloc (.cells #[.int .i64 0, .int .i64 1] 3)).alloc (.cells #[.int .i64 2] 3)).alloc (.cells #[.int .i64 3] 3)).alloc (.cells #[.slice (some ⟨w7.heap.size, 0, none⟩) 2 2, .slice (some ⟨w7.heap.size + 1, 0, none⟩) 1 1, .slice (some ⟨w7.heap.size + 1 + 1, 0, none⟩) 1 1] 25)) = w8 at *
  refine (kLists_any _ _ [[0, 1], [2], [3]] [[0, 1], [2], [3]] _ HL8.out HLL8.out (by decide) (by decide) (by decide) (by decide)).mono ?_
  rw [decide_eq_true rfl]
  rintro e w9 ⟨rfl, hb9⟩
  have HP9 := hidIt (HP8.out.below hb9)
  have HH9 := hidIt (HH8.out.below hb9)
  have HX9 := hidIt (blk_kept2 HX8.out hb9)
  have HY9 := hidIt (blk_kept2 HY8.out hb9)
  have HB9 := hidIt (HB8.out.trans (Below.mono hb9 HB8.out.size))
  have HT9 := hidIt (HT.out.go HB9.out)
  clear hb9 HL8 HLL8 HP8 HH8 HX8 HY8 HB8
  obtain ⟨x0, x1⟩ := And.intro (cell_two0 HX9.out) (cell_two1 HX9.out)
  have lx := lt_of_block HX9.out
  go_wp2_with fail
  refine (gReach_any 4 _ exP 0 _ HP9.out (by decide) HT9.out).mono ?_
  rw [ex_vN, ex_vL, ex_reach]
  rintro e w10 ⟨v10, rfl, hi10, hb10⟩
  obtain ⟨a10, c10, rfl, -⟩ := hi10.ic
  have hg11 := bgrow w10 (.cells #[.int .i64 0, .int .i64 1, .int .i64 2] 3)
  have HI11 := hidIt (ints_blk (zs := [0, 1, 2]) (c := 3) (heap_alloc_new w10 (.cells #[.int .i64 0, .int .i64 1, .int .i64 2] 3)) (by decide) (by decide))
  have HR11 := hidIt (hi10.below hg11)
  have HP11 := hidIt ((HP9.out.below hb10).below hg11)
  have HH11 := hidIt ((HH9.out.below hb10).below hg11)
  have HX11 := hidIt (blk_kept2 (blk_kept2 HX9.out hb10) hg11)
  have HY11 := hidIt (blk_kept2 (blk_kept2 HY9.out hb10) hg11)
  have HB11 := hidIt ((HB9.out.trans (Below.mono hb10 HB9.out.size)).trans (Below.mono hg11 (Nat.le_trans HB9.out.size hb10.size)))
  clear hi10 hb10 hg11 HP9 HH9 HX9 HY9 HB9 HT9 x0 x1 lx
  go_wp2_with fail
  generalize (w10.alloc (.cells #[.int .i64 0, .int .i64 1, .int .i64 2] 3)) = w11 at *
  refine (kInts_any _ _ [0, 1, 2] [0, 1, 2] _ HR11.out HI11.out (by decide) (by decide)).mono ?_
  rw [decide_eq_true rfl]
  rintro e w12 ⟨rfl, hb12⟩
  have hg13 := bgrow w12 (.cells #[.int .i64 0, .int .i64 1] 43)
  have HJ13 := hidIt (pairs_blk (ps := [(0, 1)]) (c := 1) (heap_alloc_new w12 (.cells #[.int .i64 0, .int .i64 1] 43)) (by decide) (by decide))
  have HP13 := hidIt ((HP11.out.below hb12).below hg13)
  have HH13 := hidIt ((HH11.out.below hb12).below hg13)
  have HX13 := hidIt (blk_kept2 (blk_kept2 HX11.out hb12) hg13)
  have HY12 := hidIt (blk_kept2 HY11.out hb12)
  have HB13 := hidIt ((HB11.out.trans (Below.mono hb12 HB11.out.size)).trans (Below.mono hg13 (Nat.le_trans HB11.out.size hb12.size)))
  clear hb12 hg13 HP11 HH11 HX11 HY11 HB11 HI11 HR11
  obtain ⟨y0, y1⟩ := And.intro (cell_two0 HY12.out) (cell_two1 HY12.out)
  have ly := lt_of_block HY12.out
  go_wp2_with fail
  generalize (w12.alloc (.cells #[.int .i64 0, .int .i64 1] 43)) = w13 at *
  refine (rgSame_any 2 2 _ _ [(0, 1)] [(0, 1)] _ HH13.out HJ13.out (by decide) (by decide)).mono ?_
  rw [show sameB 2 2 [(0, 1)] [(0, 1)] = true from by decide]
  rintro e w14 ⟨rfl, hb14⟩
  have HP14 := hidIt (HP13.out.below hb14)
  have HX14 := hidIt (blk_kept2 HX13.out hb14)
  have HB14 := hidIt (HB13.out.trans (Below.mono hb14 HB13.out.size))
  clear hb14 HP13 HH13 HX13 HB13 HJ13 HY12 y0 y1 ly
  obtain ⟨x0, x1⟩ := And.intro (cell_two0 HX14.out) (cell_two1 HX14.out)
  have lx := lt_of_block HX14.out
  go_wp2_with fail
  refine (gHas_any 4 _ exP 3 3 _ HP14.out (by decide)).mono ?_
  rw [show decide (((3, 3) : Int × Int) ∈ vL 4 exP) = true from by rw [ex_vL]; decide]
  rintro e w15 ⟨rfl, hb15⟩
  have HB15 := hidIt (HB14.out.trans (Below.mono hb15 HB14.out.size))
  clear hb15
  go_wp2_with fail
  go_ret
  exact ⟨rfl, HB15.out⟩
end Go.Proofs.YtcelijjohcfhkaaDoor
