/- Equal lists of pairs, equal graphs, equal lists of lists; a pair in a list. -/
import Derived.Test.YtcelijjohcfhkaaDoorG0A
namespace Go.Proofs.YtcelijjohcfhkaaDoor
set_option linter.unusedVariables false
set_option linter.unusedSimpArgs false
open Go Go.RowKit Go.Sort

theorem getElem_bang {xs : List (Int × Int)} {k : Nat} (h : k < xs.length) : xs[k]! = xs[k] := getElem!_pos xs k h

/-- A graph's two boxes, laid one behind the other. -/
theorem two_boxes (w : World) (O1 O2 : Obj) : (((w.alloc O1).alloc O2).heap[w.heap.size]? = some O1 ∧ ((w.alloc O1).alloc O2).heap[w.heap.size + 1]? = some O2) ∧ Below w.heap.size w ((w.alloc O1).alloc O2) := by
  have hg1 := bgrow w O1
  have hg2 := bgrow (w.alloc O1) O2
  have hY := heap_alloc_new (w.alloc O1) O2
  rw [World.size_alloc] at hY
  exact ⟨⟨blk_kept2 (heap_alloc_new w O1) hg2, hY⟩, hg1.trans (Below.mono hg2 hg1.size)⟩

/-- Are two graphs equal? -/
def sameB (n m : Int) (xs ys : List (Int × Int)) : Bool := decide (n = m ∧ xs = ys)

set_option maxRecDepth 100000 in
set_option maxHeartbeats 1000000 in
theorem rgSame_any (n m : Int) (v1 v2 : Value) (xs ys : List (Int × Int)) (w : World) (h1 : PairsAt w v1 xs) (h2 : PairsAt w v2 ys) (hn : xs.length ≤ 1000000) (hm : ys.length ≤ 1000000) :
    Calls Tryd.prog 12 #[.agg #[.int .i64 n, v1], .agg #[.int .i64 m, v2]] w fun e w' => e = .returned (.bool (sameB n m xs ys)) ∧ Below w.heap.size w w' := by
  obtain ⟨⟨hX, hY⟩, hB⟩ := two_boxes w (.cells #[.int .i64 n, v1] 24) (.cells #[.int .i64 m, v2] 24)
  have h1' := h1.below hB
  have h2' := h2.below hB
  obtain ⟨a1, c1, rfl, -⟩ := h1.form
  obtain ⟨a2, c2, rfl, -⟩ := h2.form
  have HX := hidIt hX
  have HY := hidIt hY
  have HB := hidIt hB
  have hsz : (w.alloc (.cells #[.int .i64 n, .slice a1 xs.length c1] 24)).heap.size = w.heap.size + 1 := by simp
  have HV : Hid (sameB n m xs ys = decide (n = m ∧ xs = ys)) := (rfl : _ = _)
  generalize sameB n m xs ys = V at *
  clear hX hY hB h1 h2
  go_enter Tryd.func12, Tryd.ntmps12
  go_upto_region 1 with (fail)
  generalize ((w.alloc (.cells #[.int .i64 n, .slice a1 xs.length c1] 24)).alloc (.cells #[.int .i64 m, .slice a2 ys.length c2] 24)) = w1 at *
  clear hsz
  have K1 : Hid (∀ i, i < xs.length → ∃ b off, a1 = some ⟨b, off, none⟩ ∧ b < w1.heap.size ∧ w1.cell? ⟨b, off + i * 2, none⟩ = some (.int .i64 (xs[i]!).1) ∧ w1.cell? ⟨b, off + i * 2 + 1, none⟩ = some (.int .i64 (xs[i]!).2)) := by
    obtain ⟨a, c, e, k⟩ := h1'.form
    injection e with e
    subst e
    exact k
  have K2 : Hid (∀ i, i < ys.length → ∃ b off, a2 = some ⟨b, off, none⟩ ∧ b < w1.heap.size ∧ w1.cell? ⟨b, off + i * 2, none⟩ = some (.int .i64 (ys[i]!).1) ∧ w1.cell? ⟨b, off + i * 2 + 1, none⟩ = some (.int .i64 (ys[i]!).2)) := by
    obtain ⟨a, c, e, k⟩ := h2'.form
    injection e with e
    subst e
    exact k
  clear h1' h2'
  obtain ⟨x0, x1⟩ := And.intro (cell_two0 HX.out) (cell_two1 HX.out)
  obtain ⟨y0, y1⟩ := And.intro (cell_two0 HY.out) (cell_two1 HY.out)
  have lx := lt_of_block HX.out
  have ly := lt_of_block HY.out
  by_cases hnm : n = m
  rotate_left
  · have hb : (n != m) = true := bne_iff_ne.2 hnm
    have HE : Hid (V = false) := by show _ = _; rw [HV.out]; simp [hnm]
    clear hnm
    go_wp2_with fail
    go_ret
    exact ⟨ret_bool HE.out.symm, HB.out⟩
  have hb : (n != m) = false := by rw [hnm]; exact bne_self_eq_false _
  have HV2 : Hid (V = decide (xs = ys)) := by show _ = _; rw [HV.out]; simp [hnm]
  clear hnm HV
  by_cases hl : xs.length = ys.length
  rotate_left
  · have hlb : ((xs.length : Int) != (ys.length : Int)) = true := bne_iff_ne.2 (by omega)
    have HE : Hid (V = false) := by show _ = _; rw [HV2.out, decide_eq_false (fun e => hl (by rw [e]))]
    go_wp2_with fail
    go_ret
    exact ⟨ret_bool HE.out.symm, HB.out⟩
  have HL := hidIt hl
  have hlb : ((xs.length : Int) != (ys.length : Int)) = false := by rw [hl]; exact bne_self_eq_false _
  clear hl
  obtain ⟨L, hL⟩ : ∃ L, L = ys.length := ⟨_, rfl⟩
  have HYL := hidIt hL
  rw [← hL] at HL hlb hm HY y1 ⊢
  obtain ⟨M, hM⟩ : ∃ M, M = xs.length := ⟨_, rfl⟩
  have HXL := hidIt hM
  rw [← hM] at HL hlb hn HX x1 ⊢
  clear hL hM
  go_wp2_with fail
  go_loopw [5] (fun i wr => ∃ k q : Nat, k ≤ M ∧ i = .int .i64 k ∧ wr = w1.drewN q ∧ Hid (xs.take k = ys.take k)) (fun i _ => M - (intOf i).toNat)
  case atStart => exact ⟨0, 0, Nat.zero_le _, (by first | rfl | trivial), rfl, (rfl : _ = _)⟩
  case round =>
    obtain ⟨k, q, hk, rfl, rfl, HT⟩ := hrel
    have hkI0 : (0 : Int) ≤ (k : Int) := by omega
    by_cases hlt : k < M
    · have hkI : (k : Int) < (M : Int) := by omega
      have hkL : (k : Int) < (L : Int) := by have := HL.out; omega
      have HLX : Hid (k < xs.length) := by show k < _; rw [← HXL.out]; exact hlt
      have HLY : Hid (k < ys.length) := by show k < _; rw [← HYL.out, ← HL.out]; exact hlt
      obtain ⟨b1, o1, rfl, l1, p0, p1⟩ := K1.out k HLX.out
      obtain ⟨b2, o2, rfl, l2, q0, q1⟩ := K2.out k HLY.out
      rw [getElem_bang HLX.out] at p0 p1
      rw [getElem_bang HLY.out] at q0 q1
      obtain ⟨x, hx⟩ : ∃ x, x = xs[k]'HLX.out := ⟨_, rfl⟩
      obtain ⟨y, hy⟩ : ∃ y, y = ys[k]'HLY.out := ⟨_, rfl⟩
      rw [← hx] at p0 p1
      rw [← hy] at q0 q1
      have EX := hidIt hx
      have EY := hidIt hy
      clear hx hy
      obtain ⟨gx, sx⟩ := x
      obtain ⟨gy, sy⟩ := y
      simp only at p0 p1 q0 q1
      have hgd := fun (op : BinOp) (a b : Operand) (w : World) => gdL op a b gx gy sx sy w
      by_cases he : ((gx, sx) : Int × Int) = (gy, sy)
      · have hq : ∀ w, (Op.equalIn 10000 43 (.agg #[.int .i64 gx, .int .i64 sx]) (.agg #[.int .i64 gy, .int .i64 sy])).run Tryd.prog w = .ok true w := fun w => by rw [eqFieldsL]; simp only [he, decide_true]
        have HE := hidIt he
        clear he
        go_wp2_with fail
        go_quiet (fail)
        go_wp2_with fail
        go_roundw
        case rel => exact ⟨k + 1, _, by omega, by go_num, (by first | rfl | exact World.drewN_drewN _ _ _), take_step HT.out HLX.out HLY.out (by rw [← EX.out, ← EY.out]; exact HE.out)⟩
        case measure => simp [intOf]; omega
      · have hq : ∀ w, (Op.equalIn 10000 43 (.agg #[.int .i64 gx, .int .i64 sx]) (.agg #[.int .i64 gy, .int .i64 sy])).run Tryd.prog w = .ok false w := fun w => by rw [eqFieldsL]; simp only [he, decide_false]
        have HE := hidIt he
        clear he
        go_wp2_with fail
        go_quiet (fail)
        go_wp2_with fail
        go_ret
        exact ⟨ret_bool (by rw [HV2.out, decide_eq_false (take_neq (k := k) HLX.out HLY.out (by rw [← EX.out, ← EY.out]; exact HE.out))]), ⟨HB.out.os, HB.out.tape, HB.out.output, HB.out.size, HB.out.block⟩⟩
    · have hkI : ¬ (k : Int) < (M : Int) := by omega
      have HEQ : Hid (xs = ys) := take_all HT.out (by rw [← HXL.out]; omega) (by rw [← HYL.out, ← HL.out]; omega)
      go_wp2_with fail
      go_ret
      exact ⟨ret_bool (by rw [HV2.out, decide_eq_true HEQ.out]), ⟨HB.out.os, HB.out.tape, HB.out.output, HB.out.size, HB.out.block⟩⟩

/-- A list of lists of numbers. -/
def LL (w : World) (v : Value) (zss : List (List Int)) : Prop :=
  (v = .slice none 0 0 ∧ zss = []) ∨
  ∃ (b off cap : Nat), v = .slice (some ⟨b, off, none⟩) zss.length cap ∧ zss.length ≤ cap ∧ cap ≤ maxLen ∧ b < w.heap.size ∧ ∀ i (h : i < zss.length), ∃ u, w.cell? ⟨b, off + i, none⟩ = some u ∧ IL w u zss[i]
theorem LL.below {w w' : World} {v : Value} {zss : List (List Int)} (h : LL w v zss) (hb : Below w.heap.size w w') : LL w' v zss := by
  rcases h with h | ⟨b, off, cap, h1, h2, h3, h4, h5⟩
  · exact .inl h
  · refine .inr ⟨b, off, cap, h1, h2, h3, Nat.lt_of_lt_of_le h4 hb.size, fun i hi => ?_⟩
    obtain ⟨u, hu, hl⟩ := h5 i hi
    exact ⟨u, (Below.cell (p := ⟨b, off + i, none⟩) hb h4).trans hu, hl.below hb⟩
theorem LL.form {w : World} {v : Value} {zss : List (List Int)} (h : LL w v zss) : ∃ (a : Option Addr) (c : Nat), v = .slice a zss.length c ∧
    (∀ i (h : i < zss.length), ∃ b off u, a = some ⟨b, off, none⟩ ∧ b < w.heap.size ∧ w.cell? ⟨b, off + i, none⟩ = some u ∧ IL w u zss[i]) := by
  rcases h with ⟨rfl, rfl⟩ | ⟨b, off, cap, rfl, h2, h3, h4, h5⟩
  · exact ⟨none, 0, rfl, fun i hi => by simp at hi⟩
  · exact ⟨_, cap, rfl, fun i hi => by obtain ⟨u, hu, hl⟩ := h5 i hi; exact ⟨b, off, u, rfl, h4, hu, hl⟩⟩
end Go.Proofs.YtcelijjohcfhkaaDoor
