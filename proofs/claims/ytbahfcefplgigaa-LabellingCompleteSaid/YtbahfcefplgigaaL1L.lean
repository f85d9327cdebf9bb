/- awake: the chapter's examples answer true. -/
import Derived.Test.YtbahfcefplgigaaL1K
namespace Go.Proofs.Ytbahfcefplgigaa
set_option linter.unusedVariables false
set_option linter.unusedSimpArgs false
open Go Go.RowKit Go.Sort

theorem pairs_blk {w : World} {b c : Nat} {ps : List (Int × Int)} {t : TypeId} (h : w.heap[b]? = some (.cells (ps.flatMap encP).toArray t (0, 0))) (hc : ps.length ≤ c) (hm : c ≤ maxLen) : PairsAt w (.slice (some ⟨b, 0, none⟩) ps.length c) ps := by
  refine .inr ⟨b, 0, c, rfl, hc, hm, lt_of_block h, fun i hi => ?_⟩
  have e0 := flatMap_get ps (i * 2) (by omega)
  have e1 := flatMap_get ps (i * 2 + 1) (by omega)
  rw [show i * 2 / 2 = i by omega, show i * 2 % 2 = 0 by omega] at e0
  rw [show (i * 2 + 1) / 2 = i by omega, show (i * 2 + 1) % 2 = 1 by omega] at e1
  constructor
  · simp [World.cell?, h, e0, encP]
  · simp [World.cell?, h, e1, encP]
theorem ints_blk {w : World} {b c : Nat} {zs : List Int} {t : TypeId} (h : w.heap[b]? = some (.cells (zs.map (Value.int .i64)).toArray t (0, 0))) (hc : zs.length ≤ c) (hm : c ≤ maxLen) : IL w (.slice (some ⟨b, 0, none⟩) zs.length c) zs :=
  .inr ⟨b, 0, c, rfl, hc, hm, lt_of_block h, fun i hi => by simp [World.cell?, h, hi]⟩
theorem IL.taken {w : World} {b n c k : Nat} {zs : List Int} (h : IL w (.slice (some ⟨b, 0, none⟩) n c) zs) (hk : k ≤ zs.length) : IL w (.slice (some ⟨b, 0, none⟩) k c) (zs.take k) := by
  rcases h with ⟨h, -⟩ | ⟨b', off, cap, h1, h2, h3, h4, h5⟩
  · cases h
  · injection h1 with h1 h6 h7
    injection h1 with h1
    injection h1 with h1 h8
    subst h1 h8 h7
    have hl : (zs.take k).length = k := by rw [List.length_take]; omega
    refine .inr ⟨b, 0, c, by rw [hl], by omega, h3, h4, fun i hi => ?_⟩
    rw [List.getElem_take]
    exact h5 i (by omega)

def exC : List (Int × Int) := [(0, 1), (1, 2)]
theorem exC_ok : GOk ((3 : Nat) : Int) exC := ⟨by decide, by decide, by decide, by decide⟩
set_option maxRecDepth 100000 in
theorem ex_fs : fsF 3 exC [2] = [3, 3, 1] := by decide
theorem ex_v1 : (validB 3 [1, 2, 1] && decide ((illL 3 exC [1, 2, 1]).length = 0)) = true := by decide
theorem ex_ill : illL 3 exC [3, 3, 1] = [0, 2] := by decide
theorem ex_cmp : cmpF [3, 3, 1] [3, 3] = 1 := by decide

set_option maxHeartbeats 400000 in
theorem chain11_any (w : World) : Calls Try.prog 43 #[] w fun e w' => ∃ b : Nat, e = .returned (.agg #[.int .i64 3, .slice (some ⟨b, 0, none⟩) 2 2]) ∧ PairsAt w' (.slice (some ⟨b, 0, none⟩) 2 2) exC ∧ Below w.heap.size w w' := by
  obtain ⟨⟨hX, hP⟩, hB⟩ := two_boxes w (.cells #[.int .i64 3, .slice (some ⟨w.heap.size + 1, 0, none⟩) 2 2] 27) (.cells #[.int .i64 0, .int .i64 1, .int .i64 1, .int .i64 2] 48)
  have HP := hidIt (pairs_blk (ps := exC) (c := 2) hP (by decide) (by decide))
  have HB := hidIt hB
  have HX := hidIt hX
  clear hX hP hB
  go_enter Try.func43, Try.ntmps43
  go_wp2_with fail
  generalize ((w.alloc (.cells #[.int .i64 3, .slice (some ⟨w.heap.size + 1, 0, none⟩) 2 2] 27)).alloc (.cells #[.int .i64 0, .int .i64 1, .int .i64 1, .int .i64 2] 48)) = w1 at *
  obtain ⟨r0, r1⟩ := And.intro (cell_two0 HX.out) (cell_two1 HX.out)
  have lr := lt_of_block HX.out
  refine bodyPost_ret (v := .agg #[.int .i64 3, .slice (some ⟨w.heap.size + 1, 0, none⟩) 2 2]) (by simp [results, Try.results43, go_sem, r0, r1, lr]) rfl ?_
  exact ⟨_, rfl, HP.out, HB.out⟩

set_option maxRecDepth 100000 in
set_option maxHeartbeats 2000000 in
theorem awake11_any (w : World) : Calls Try.prog 20 #[] w fun e w' => e = .returned (.bool true) ∧ Below w.heap.size w w' := by
  go_enter Try.func20, Try.ntmps20
  go_wp2_with fail
  refine (chain11_any w).mono ?_
  rintro e w1 ⟨b, rfl, hp1, hb1⟩
  have hg2 := bgrow w1 (.cells #[.int .i64 3, .slice (some ⟨b, 0, none⟩) 2 2] 27)
  have HP2 := hidIt (hp1.below hg2)
  have HX2 := hidIt (heap_alloc_new w1 (.cells #[.int .i64 3, .slice (some ⟨b, 0, none⟩) 2 2] 27))
  have HB2 := hidIt (hb1.trans (Below.mono hg2 hb1.size))
  clear hp1 hb1 hg2
  go_upto_region 2 with (fail)
  generalize (w1.alloc (.cells #[.int .i64 3, .slice (some ⟨b, 0, none⟩) 2 2] 27)) = w2 at *
  generalize w1.heap.size = G at *
  obtain ⟨x0, x1⟩ := And.intro (cell_two0 HX2.out) (cell_two1 HX2.out)
  have lx := lt_of_block HX2.out
  have hg3 := bgrow w2 (.cells #[.int .i64 2] 3)
  have HI3 := hidIt (ints_blk (zs := [2]) (c := 1) (heap_alloc_new w2 (.cells #[.int .i64 2] 3)) (by decide) (by decide))
  have HP3 := hidIt (HP2.out.below hg3)
  have HX3 := hidIt (blk_kept2 HX2.out hg3)
  have HB3 := hidIt (HB2.out.trans (Below.mono hg3 HB2.out.size))
  clear hg3 HP2 HX2 HB2
  go_wp2_with fail
  generalize (w2.alloc (.cells #[.int .i64 2] 3)) = w3 at *
  refine (lFromSet_any 3 _ _ exC [2] w3 HP3.out exC_ok (by decide) HI3.out (by decide)).mono ?_
  rw [ex_fs]
  rintro e w4 ⟨R, rfl, hR, hr4, hb4⟩
  have HR4 := hidIt hr4
  have HP4 := hidIt (HP3.out.below hb4)
  have HX4 := hidIt (blk_kept2 HX3.out hb4)
  have HB4 := hidIt (HB3.out.trans (Below.mono hb4 HB3.out.size))
  clear hr4 hb4 hR HP3 HX3 HB3 HI3 x0 x1 lx
  obtain ⟨x0, x1⟩ := And.intro (cell_two0 HX4.out) (cell_two1 HX4.out)
  have lx := lt_of_block HX4.out
  have hg5 := bgrow w4 (.cells #[.int .i64 1, .int .i64 2, .int .i64 1] 3)
  have HI5 := hidIt (ints_blk (zs := [1, 2, 1]) (c := 3) (heap_alloc_new w4 (.cells #[.int .i64 1, .int .i64 2, .int .i64 1] 3)) (by decide) (by decide))
  have HR5 := hidIt (HR4.out.go hg5)
  have HP5 := hidIt (HP4.out.below hg5)
  have HX5 := hidIt (blk_kept2 HX4.out hg5)
  have HB5 := hidIt (HB4.out.trans (Below.mono hg5 HB4.out.size))
  clear hg5 HR4 HP4 HX4 HB4
  go_wp2_with fail
  generalize (w4.alloc (.cells #[.int .i64 1, .int .i64 2, .int .i64 1] 3)) = w5 at *
  refine (lIsComplete_any 3 _ _ exC [1, 2, 1] w5 HP5.out exC_ok (by decide) HI5.out (by decide)).mono ?_
  rw [ex_v1]
  rintro e w6 ⟨rfl, hb6⟩
  have hg7 := bgrow w6 (.cells #[.int .i64 3, .int .i64 3, .int .i64 1] 3)
  have HI7 := hidIt (ints_blk (zs := [3, 3, 1]) (c := 3) (heap_alloc_new w6 (.cells #[.int .i64 3, .int .i64 3, .int .i64 1] 3)) (by decide) (by decide))
  have HR7 := hidIt ((HR5.out.go hb6).go hg7)
  have HP7 := hidIt ((HP5.out.below hb6).below hg7)
  have HX7 := hidIt (blk_kept2 (blk_kept2 HX5.out hb6) hg7)
  have HB6 := hidIt (HB5.out.trans (Below.mono hb6 HB5.out.size))
  have HB7 := hidIt (HB6.out.trans (Below.mono hg7 HB6.out.size))
  clear hb6 hg7 HR5 HP5 HX5 HB5 HB6 HI5 x0 x1 lx
  go_wp2_with fail
  generalize (w6.alloc (.cells #[.int .i64 3, .int .i64 3, .int .i64 1] 3)) = w7 at *
  refine (kInts_any _ _ [3, 3, 1] [3, 3, 1] w7 (HR7.out.il (c := 3) (by decide) (by decide)) HI7.out (by decide) (by decide)).mono ?_
  rw [decide_eq_true rfl]
  rintro e w8 ⟨rfl, hb8⟩
  have HR8 := hidIt (HR7.out.go hb8)
  have HP8 := hidIt (HP7.out.below hb8)
  have HX8 := hidIt (blk_kept2 HX7.out hb8)
  have HB8 := hidIt (HB7.out.trans (Below.mono hb8 HB7.out.size))
  clear hb8 HR7 HP7 HX7 HB7 HI7
  obtain ⟨x0, x1⟩ := And.intro (cell_two0 HX8.out) (cell_two1 HX8.out)
  have lx := lt_of_block HX8.out
  go_wp2_with fail
  refine (lIllegal_any 3 _ _ exC [3, 3, 1] w8 HP8.out exC_ok (by decide) (HR8.out.il (c := 3) (by decide) (by decide)) (by decide)).mono ?_
  rw [ex_ill]
  rintro e w9 ⟨a9, c9, rfl, ho9, hb9⟩
  have hg10 := bgrow w9 (.cells #[.int .i64 0, .int .i64 2] 3)
  have HI10 := hidIt (ints_blk (zs := [0, 2]) (c := 2) (heap_alloc_new w9 (.cells #[.int .i64 0, .int .i64 2] 3)) (by decide) (by decide))
  have HJ10 : Hid (IL (w9.alloc (.cells #[.int .i64 0, .int .i64 2] 3)) (.slice a9 2 c9) [0, 2]) := ho9.il.below hg10
  have HR10 := hidIt ((HR8.out.go hb9).go hg10)
  have HB9 := hidIt (HB8.out.trans (Below.mono hb9 HB8.out.size))
  have HB10 := hidIt (HB9.out.trans (Below.mono hg10 HB9.out.size))
  clear ho9 hb9 hg10 HR8 HP8 HX8 HB8 HB9 x0 x1 lx
  go_wp2_with fail
  generalize (w9.alloc (.cells #[.int .i64 0, .int .i64 2] 3)) = w10 at *
  refine (kInts_any _ _ [0, 2] [0, 2] w10 HJ10.out HI10.out (by decide) (by decide)).mono ?_
  rw [decide_eq_true rfl]
  rintro e w11 ⟨rfl, hb11⟩
  have HR11 := hidIt (HR10.out.go hb11)
  have HB11 := hidIt (HB10.out.trans (Below.mono hb11 HB10.out.size))
  clear hb11 HR10 HB10 HI10 HJ10
  go_wp2_with fail
  have HL11 := hidIt (HR11.out.il (c := 3) (by decide) (by decide))
  have HC := hidIt (lCompare_any _ _ [3, 3, 1] [3, 3] w11 HL11.out (HL11.out.taken (k := 2) (by decide)) (by decide) (by decide))
  rw [ex_cmp] at HC
  refine HC.out.mono ?_
  rintro e w12 ⟨rfl, hb12⟩
  have HB12 := hidIt (HB11.out.trans (Below.mono hb12 HB11.out.size))
  clear hb12
  go_wp2_with fail
  go_ret
  exact ⟨rfl, HB12.out⟩
end Go.Proofs.Ytbahfcefplgigaa
