/- awake: the first two examples of chapter 13 answer true, in whatever memory the library's table lies. -/
import Derived.Test.YtihmdnbeonefcaaDoorZ4N1G

namespace Go.Proofs.YtihmdnbeonefcaaDoor
set_option linter.unusedVariables false
set_option linter.unusedSimpArgs false
open Go Go.RowKit Go.Sort

theorem pairs_blk13 {w : World} {b c : Nat} {ps : List (Int × Int)} {t : TypeId} (h : w.heap[b]? = some (.cells (ps.flatMap encP).toArray t (0, 0))) (hc : ps.length ≤ c) (hm : c ≤ maxLen) : PairsAt w (.slice (some ⟨b, 0, none⟩) ps.length c) ps := by
  refine .inr ⟨b, 0, c, rfl, hc, hm, lt_of_block h, fun i hi => ?_⟩
  have e0 := flatMap_get ps (i * 2) (by omega)
  have e1 := flatMap_get ps (i * 2 + 1) (by omega)
  rw [show i * 2 / 2 = i by omega, show i * 2 % 2 = 0 by omega] at e0
  rw [show (i * 2 + 1) / 2 = i by omega, show (i * 2 + 1) % 2 = 1 by omega] at e1
  constructor
  · simp [World.cell?, h, e0, encP]
  · simp [World.cell?, h, e1, encP]
theorem ints_blk13 {w : World} {b c : Nat} {zs : List Int} {t : TypeId} (h : w.heap[b]? = some (.cells (zs.map (Value.int .i64)).toArray t (0, 0))) (hc : zs.length ≤ c) (hm : c ≤ maxLen) : IL w (.slice (some ⟨b, 0, none⟩) zs.length c) zs :=
  .inr ⟨b, 0, c, rfl, hc, hm, lt_of_block h, fun i hi => by simp [World.cell?, h, hi]⟩
def exA : List (Int × Int) := [(0, 1), (1, 2)]
def exB : List (Int × Int) := [(0, 1), (1, 0)]
theorem exA_ok : GOk ((3 : Nat) : Int) exA := ⟨by decide, by decide, by decide, by decide⟩
theorem exB_ok : GOk ((2 : Nat) : Int) exB := ⟨by decide, by decide, by decide, by decide⟩
theorem exA_grow : GrowR 3 exA (memB []) (fun i => decide (i ≠ 1)) := by
  refine ⟨fun i _ h => by simp [memB] at h, by decide, by decide, by decide, fun Y _ h i hi hz => ?_⟩
  have h0 : Y 0 = true := h 0 (by decide) (by simp [dfX, exA])
  have h2 : Y 2 = true := h 2 (by decide) ((dfX_iff exA_ok.ix).2 fun k hk => ⟨0, by
    have e : k = 1 := by
      unfold At exA at hk
      simp only [List.mem_cons, List.not_mem_nil, or_false, Prod.mk.injEq] at hk
      omega
    subst e
    decide, h0⟩)
  match i, hi, hz with
  | 0, _, _ => exact h0
  | 2, _, _ => exact h2
theorem exA_set {l : List Int} (h : GrowS 3 exA [] l) : l = [0, 2] := by
  obtain ⟨Z, hz, rfl⟩ := h.good (by decide)
  rw [hz.uniq exA_grow]
  decide
/-- The two graphs of the examples lie in memory. -/
structure AW (w0 : World) (a1 a2 : Value) (G H : Nat) (w : World) : Prop where
  x : w.heap[G]? = some (.cells #[.int .i64 3, a1] 27 (0, 0))
  y : w.heap[H]? = some (.cells #[.int .i64 2, a2] 27 (0, 0))
  p : PairsAt w a1 exA
  q : PairsAt w a2 exB
  t : Tab w
  b : Below w0.heap.size w0 w
theorem AW.go {w0 : World} {a1 a2 : Value} {G H : Nat} {w w' : World} (h : AW w0 a1 a2 G H w) (hb : Below w.heap.size w w') : AW w0 a1 a2 G H w' :=
  ⟨blk_kept2 h.x hb, blk_kept2 h.y hb, h.p.below hb, h.q.below hb, h.t.go hb, h.b.trans (Below.mono hb h.b.size)⟩

set_option maxRecDepth 100000 in
set_option maxHeartbeats 2000000 in
theorem awake13_any (w : World) (hT : Tab w) : Calls Tryd.prog 31 #[] w fun e w' => e = .returned (.bool true) ∧ Below w.heap.size w w' := by
  have HT := hidIt hT
  obtain ⟨⟨hX, hY⟩, hB⟩ := two_boxes w (.cells #[.int .i64 0, .int .i64 1, .int .i64 1, .int .i64 2] 49) (.cells #[.int .i64 3, .slice (some ⟨w.heap.size, 0, none⟩) 2 2] 27)
  have HP := hidIt (pairs_blk13 (ps := exA) (c := 2) hX (by decide) (by decide))
  have HX := hidIt hY
  have HB := hidIt hB
  clear hX hY hB hT
  go_enter Tryd.func31, Tryd.ntmps31
  go_upto_region 2 with (fail)
  generalize ((w.alloc (.cells #[.int .i64 0, .int .i64 1, .int .i64 1, .int .i64 2] 49)).alloc (.cells #[.int .i64 3, .slice (some ⟨w.heap.size, 0, none⟩) 2 2] 27)) = w2 at *
  generalize w.heap.size + 1 = G at *
  generalize hS1 : (Value.slice (some ⟨w.heap.size, 0, none⟩) 2 2) = a1 at *
  change Hid (PairsAt w2 (Value.slice (some ⟨w.heap.size, 0, none⟩) 2 2) exA) at HP
  rw [hS1] at HP
  obtain ⟨⟨hX, hY⟩, hB⟩ := two_boxes w2 (.cells #[.int .i64 0, .int .i64 1, .int .i64 1, .int .i64 0] 49) (.cells #[.int .i64 2, .slice (some ⟨w2.heap.size, 0, none⟩) 2 2] 27)
  have HW : Hid (AW w a1 (Value.slice (some ⟨w2.heap.size, 0, none⟩) 2 2) G (w2.heap.size + 1) ((w2.alloc (.cells #[.int .i64 0, .int .i64 1, .int .i64 1, .int .i64 0] 49)).alloc (.cells #[.int .i64 2, .slice (some ⟨w2.heap.size, 0, none⟩) 2 2] 27))) :=
    ⟨blk_kept2 HX.out hB, hY, HP.out.below hB, pairs_blk13 (ps := exB) (c := 2) hX (by decide) (by decide), (HT.out.go HB.out).go hB, HB.out.trans (Below.mono hB HB.out.size)⟩
  clear HP HX HB HT hX hY hB hS1
  go_upto_region 3 with (fail)
  generalize ((w2.alloc (.cells #[.int .i64 0, .int .i64 1, .int .i64 1, .int .i64 0] 49)).alloc (.cells #[.int .i64 2, .slice (some ⟨w2.heap.size, 0, none⟩) 2 2] 27)) = w4 at *
  generalize w2.heap.size + 1 = H at *
  generalize (Value.slice (some ⟨w2.heap.size, 0, none⟩) 2 2) = a2 at *
  obtain ⟨x0, x1⟩ := And.intro (cell_two0 HW.out.x) (cell_two1 HW.out.x)
  have lx := lt_of_block HW.out.x
  go_wp2_with fail
  refine (qGrow_any 3 _ _ exA [] w4 HW.out.p exA_ok (by decide) (IL.nil _) (by decide) HW.out.t).mono ?_
  rw [show growE 3 exA [] = 0 by decide]
  rintro e w5 ⟨v5, l, rfl, hg5, ho5, hb5⟩
  rw [exA_set hg5] at ho5
  have HW5 := hidIt (HW.out.go hb5)
  clear hg5 hb5 HW x0 x1 lx
  have hb6 := bgrow w5 (.cells #[.int .i64 0, .int .i64 2] 3)
  have HI6 := hidIt (ints_blk13 (zs := [0, 2]) (c := 2) (heap_alloc_new w5 (.cells #[.int .i64 0, .int .i64 2] 3)) (by decide) (by decide))
  have HL6 := hidIt (ho5.il.below hb6)
  have HW6 := hidIt (HW5.out.go hb6)
  clear ho5 hb6 HW5
  go_wp2_with fail
  generalize (w5.alloc (.cells #[.int .i64 0, .int .i64 2] 3)) = w6 at *
  refine (kInts_any _ _ [0, 2] [0, 2] w6 HL6.out HI6.out (by decide) (by decide)).mono ?_
  rw [decide_eq_true rfl]
  rintro e w7 ⟨rfl, hb7⟩
  have HW7 := hidIt (HW6.out.go hb7)
  clear hb7 HW6 HI6 HL6
  have hb8 := bgrow w7 (.cells #[.int .i64 0] 3)
  have HI8 := hidIt (ints_blk13 (zs := [0]) (c := 1) (heap_alloc_new w7 (.cells #[.int .i64 0] 3)) (by decide) (by decide))
  obtain ⟨x0, x1⟩ := And.intro (cell_two0 HW7.out.x) (cell_two1 HW7.out.x)
  have lx := lt_of_block HW7.out.x
  have HW8 := hidIt (HW7.out.go hb8)
  clear hb8 HW7
  go_wp2_with fail
  generalize (w7.alloc (.cells #[.int .i64 0] 3)) = w8 at *
  refine (qDefends_any 3 _ _ exA [0] 2 w8 HW8.out.p exA_ok (by decide) HI8.out (by decide) HW8.out.t).mono ?_
  rw [show (setB 3 [0] && (ixB 2 ((3 : Nat) : Int) && dfX exA (memB [0]) (2 : Int).toNat)) = true by decide]
  rintro e w9 ⟨rfl, hb9⟩
  have HW9 := hidIt (HW8.out.go hb9)
  clear hb9 HW8 HI8 x0 x1 lx
  obtain ⟨x0, x1⟩ := And.intro (cell_two0 HW9.out.x) (cell_two1 HW9.out.x)
  have lx := lt_of_block HW9.out.x
  go_wp2_with fail
  refine (qDefends_any 3 _ _ exA [] 2 w9 HW9.out.p exA_ok (by decide) (IL.nil _) (by decide) HW9.out.t).mono ?_
  rw [show (setB 3 [] && (ixB 2 ((3 : Nat) : Int) && dfX exA (memB []) (2 : Int).toNat)) = false by decide]
  rintro e w10 ⟨rfl, hb10⟩
  have HW10 := hidIt (HW9.out.go hb10)
  clear hb10 HW9 x0 x1 lx
  have hb11 := bgrow w10 (.cells #[.int .i64 0] 3)
  have HI11 := hidIt (ints_blk13 (zs := [0]) (c := 1) (heap_alloc_new w10 (.cells #[.int .i64 0] 3)) (by decide) (by decide))
  obtain ⟨y0, y1⟩ := And.intro (cell_two0 HW10.out.y) (cell_two1 HW10.out.y)
  have ly := lt_of_block HW10.out.y
  have HW11 := hidIt (HW10.out.go hb11)
  clear hb11 HW10
  go_wp2_with fail
  generalize (w10.alloc (.cells #[.int .i64 0] 3)) = w11 at *
  refine (qIsStable_any 2 _ _ exB [0] w11 HW11.out.q exB_ok (by decide) HI11.out (by decide) HW11.out.t).mono ?_
  rw [show (setB 2 [0] && stabX 2 exB (memB [0])) = true by decide]
  rintro e w12 ⟨rfl, hb12⟩
  have HW12 := hidIt (HW11.out.go hb12)
  clear hb12 HW11 HI11 y0 y1 ly
  have hb13 := bgrow w12 (.cells #[.int .i64 0] 3)
  have HI13 := hidIt (ints_blk13 (zs := [0]) (c := 1) (heap_alloc_new w12 (.cells #[.int .i64 0] 3)) (by decide) (by decide))
  obtain ⟨y0, y1⟩ := And.intro (cell_two0 HW12.out.y) (cell_two1 HW12.out.y)
  have ly := lt_of_block HW12.out.y
  have HW13 := hidIt (HW12.out.go hb13)
  clear hb13 HW12
  go_wp2_with fail
  generalize (w12.alloc (.cells #[.int .i64 0] 3)) = w13 at *
  refine (qIsComplete_any 2 _ _ exB [0] w13 HW13.out.q exB_ok (by decide) HI13.out (by decide) HW13.out.t).mono ?_
  rw [show (setB 2 [0] && compX 2 exB (memB [0])) = true by decide]
  rintro e w14 ⟨rfl, hb14⟩
  have HW14 := hidIt (HW13.out.go hb14)
  clear hb14 HW13 HI13 y0 y1 ly
  have hb15 := bgrow w14 (.cells #[.int .i64 0, .int .i64 1] 3)
  have HI15 := hidIt (ints_blk13 (zs := [0, 1]) (c := 2) (heap_alloc_new w14 (.cells #[.int .i64 0, .int .i64 1] 3)) (by decide) (by decide))
  obtain ⟨y0, y1⟩ := And.intro (cell_two0 HW14.out.y) (cell_two1 HW14.out.y)
  have ly := lt_of_block HW14.out.y
  have HW15 := hidIt (HW14.out.go hb15)
  clear hb15 HW14
  go_wp2_with fail
  generalize (w14.alloc (.cells #[.int .i64 0, .int .i64 1] 3)) = w15 at *
  refine (qAdmissible_any 2 _ _ exB [0, 1] w15 HW15.out.q exB_ok (by decide) HI15.out (by decide) HW15.out.t).mono ?_
  rw [show (setB 2 [0, 1] && admX 2 exB (memB [0, 1])) = false by decide]
  rintro e w16 ⟨rfl, hb16⟩
  have HW16 := hidIt (HW15.out.go hb16)
  clear hb16 HW15 HI15 y0 y1 ly
  go_wp2_with fail
  go_ret
  exact ⟨rfl, HW16.out.b⟩
end Go.Proofs.YtihmdnbeonefcaaDoor
