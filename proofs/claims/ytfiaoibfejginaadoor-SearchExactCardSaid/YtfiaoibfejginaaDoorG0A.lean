/- Lists of numbers and of pairs that are read: isNode, keep's Ints, In, Lists; Equal, Index, Contains; Same. -/
import Derived.Test.YtfiaoibfejginaaDoorG0App
import Derived.Test.YtfiaoibfejginaaDoorIn
import Derived.LoopN
import Derived.Deep.CutRange
namespace Go.Proofs.YtfiaoibfejginaaDoor
set_option linter.unusedVariables false
set_option linter.unusedSimpArgs false
open Go Go.RowKit Go.Sort

/-- The value is a list of numbers that reads as zs. -/
def IL (w : World) (v : Value) (zs : List Int) : Prop :=
  (v = .slice none 0 0 ∧ zs = []) ∨
  ∃ (b off cap : Nat), v = .slice (some ⟨b, off, none⟩) zs.length cap ∧ zs.length ≤ cap ∧ cap ≤ maxLen ∧ b < w.heap.size ∧ ∀ i (h : i < zs.length), w.cell? ⟨b, off + i, none⟩ = some (.int .i64 zs[i])
theorem IL.nil (w : World) : IL w (.slice none 0 0) [] := .inl ⟨rfl, rfl⟩
theorem IL.below {w w' : World} {v : Value} {zs : List Int} (h : IL w v zs) (hb : Below w.heap.size w w') : IL w' v zs := by
  rcases h with h | ⟨b, off, cap, h1, h2, h3, h4, h5⟩
  · exact .inl h
  · exact .inr ⟨b, off, cap, h1, h2, h3, Nat.lt_of_lt_of_le h4 hb.size, fun i hi => (Below.cell (p := ⟨b, off + i, none⟩) hb h4).trans (h5 i hi)⟩
theorem IL.form {w : World} {v : Value} {zs : List Int} (h : IL w v zs) : ∃ (a : Option Addr) (c : Nat), v = .slice a zs.length c ∧
    (∀ i (h : i < zs.length), ∃ b off, a = some ⟨b, off, none⟩ ∧ b < w.heap.size ∧ w.cell? ⟨b, off + i, none⟩ = some (.int .i64 zs[i])) := by
  rcases h with ⟨rfl, rfl⟩ | ⟨b, off, cap, rfl, h2, h3, h4, h5⟩
  · exact ⟨none, 0, rfl, fun i hi => by simp at hi⟩
  · exact ⟨_, cap, rfl, fun i hi => ⟨b, off, rfl, h4, h5 i hi⟩⟩
theorem PairsAt.form {w : World} {v : Value} {xs : List (Int × Int)} (h : PairsAt w v xs) : ∃ (a : Option Addr) (c : Nat), v = .slice a xs.length c ∧
    (∀ i, i < xs.length → ∃ b off, a = some ⟨b, off, none⟩ ∧ b < w.heap.size ∧ w.cell? ⟨b, off + i * 2, none⟩ = some (.int .i64 (xs[i]!).1) ∧ w.cell? ⟨b, off + i * 2 + 1, none⟩ = some (.int .i64 (xs[i]!).2)) := by
  rcases h with ⟨rfl, rfl⟩ | ⟨b, off, cap, rfl, h2, h3, h4, h5⟩
  · exact ⟨none, 0, rfl, fun i hi => by simp at hi⟩
  · exact ⟨_, cap, rfl, fun i hi => ⟨b, off, rfl, h4, h5 i hi⟩⟩

theorem infoI9 : (Tryd.prog.info? 3).map (fun i => (i.zero, i.size, i.bytes)) = some (some (.int .i64 0), 1, 8) := by kernel_rfl
theorem elemI : ElemOf 25 3 1 8 := elem_of Tryd.underlying25 infoI9 rfl (by decide) (by decide)
/-- A list of numbers that the call owns. -/
def OwnI (w : World) (B : Nat) (v : Value) (zs : List Int) : Prop := w.ownsRow B 3 1 v zs.length (zs.map (Value.int .i64))
theorem OwnI.nil (w : World) (B : Nat) : OwnI w B (.slice none 0 0) [] := World.ownsRow_nil w B _ _
theorem OwnI.go {w w' : World} {B : Nat} {v : Value} {zs : List Int} (h : OwnI w B v zs) (hb : Below w.heap.size w w') : OwnI w' B v zs := owns_kept h fun g e => hb.block g (owns_blk h g e).2
theorem OwnI.il {w : World} {B : Nat} {v : Value} {zs : List Int} (h : OwnI w B v zs) : IL w v zs := by
  rcases h.2 with ⟨rfl, h0⟩ | ⟨g, cap, cur, rfl, hB, hg, hnc, hcm, -, -⟩
  · exact .inl ⟨rfl, List.eq_nil_of_length_eq_zero h0⟩
  · refine .inr ⟨g, 0, cap, rfl, hnc, hcm, lt_of_block hg, fun i hi => ?_⟩
    rw [Nat.zero_add]
    exact owns_cell h rfl i _ (by rw [List.getElem?_map, List.getElem?_eq_getElem hi]; rfl)
theorem OwnI.snoc {w : World} {B : Nat} {v : Value} {zs : List Int} {z : Int} (h : w.ownsRow B 3 1 v (zs.length + 1) (zs.map (Value.int .i64) ++ [.int .i64 z])) : OwnI w B v (zs ++ [z]) := by
  unfold OwnI
  rw [List.length_append, List.map_append]
  exact h

theorem infoL : (Tryd.prog.info? 45).map (fun i => (i.zero, i.size, i.bytes)) = some (some (.agg #[.int .i64 0, .int .i64 0]), 2, 16) := by kernel_rfl
/-- A list of pairs that the call owns. -/
def OwnP (w : World) (B : Nat) (v : Value) (ps : List (Int × Int)) : Prop := w.ownsRow B 45 2 v ps.length (ps.flatMap encP)
theorem elemP : ElemOf 22 45 2 16 := elem_of Tryd.underlying22 infoL rfl (by decide) (by decide)
theorem OwnP.nil (w : World) (B : Nat) : OwnP w B (.slice none 0 0) [] := World.ownsRow_nil w B _ _
theorem OwnP.go {w w' : World} {B : Nat} {v : Value} {ps : List (Int × Int)} (h : OwnP w B v ps) (hb : Below w.heap.size w w') : OwnP w' B v ps := owns_kept h fun g e => hb.block g (owns_blk h g e).2
theorem OwnP.snoc {w : World} {B : Nat} {v : Value} {ps : List (Int × Int)} {x : Int × Int} (h : w.ownsRow B 45 2 v (ps.length + 1) (ps.flatMap encP ++ [.int .i64 x.1, .int .i64 x.2])) : OwnP w B v (ps ++ [x]) := by
  unfold OwnP
  rw [List.length_append, List.flatMap_append]
  exact h
theorem flatMap_get : ∀ (xs : List (Int × Int)) (j : Nat), j < xs.length * 2 → (xs.flatMap encP)[j]? = some ((encP xs[j / 2]!)[j % 2]!)
  | [], j, h => by simp at h
  | x :: r, j, h => by
    rw [List.flatMap_cons]
    match j with
    | 0 => rfl
    | 1 => rfl
    | j + 2 =>
      have ih := flatMap_get r j (by simp at h; omega)
      rw [show (j + 2) / 2 = j / 2 + 1 by omega, show (j + 2) % 2 = j % 2 by omega]
      exact ih
theorem flatMap_len (xs : List (Int × Int)) : (xs.flatMap encP).length = xs.length * 2 := by
  induction xs with
  | nil => rfl
  | cons x r ih => rw [List.flatMap_cons, List.length_append, ih, encP_len, List.length_cons]; omega
theorem flatL_eq (xs : List (Int × Int)) : flatL xs = xs.flatMap encP := by
  apply List.ext_getElem?
  intro j
  by_cases h : j < xs.length * 2
  · rw [flatL_get xs j h, flatMap_get xs j h]
  · rw [List.getElem?_eq_none (by rw [flatL_len]; omega), List.getElem?_eq_none (by rw [flatMap_len]; omega)]
theorem OwnP.own {w : World} {B : Nat} {v : Value} {ps : List (Int × Int)} (h : OwnP w B v ps) : OwnPairs w B v ps := by
  by_cases hn : v = .slice none 0 0
  · obtain ⟨_, h | ⟨g, cap, cur, h1, _⟩⟩ := h
    · exact .inl ⟨h.1, List.eq_nil_of_length_eq_zero h.2⟩
    · rw [h1] at hn; cases hn
  · refine holds_of_owns ?_ hn
    rw [flatL_eq]
    exact h
theorem OwnP.at_ {w : World} {B : Nat} {v : Value} {ps : List (Int × Int)} (h : OwnP w B v ps) : PairsAt w v ps := h.own.lits

/-- Is it the number of a node? -/
def ixB (i n : Int) : Bool := decide (0 ≤ i) && decide (i < n)
theorem gisNode_any (n i : Int) (v : Value) (hv : ∃ a l c, v = .slice a l c) (w : World) : Calls Tryd.prog 46 #[.agg #[.int .i64 n, v], .int .i64 i] w fun e w' => e = .returned (.bool (ixB i n)) ∧ Below w.heap.size w w' := by
  obtain ⟨a, l, c, rfl⟩ := hv
  unfold ixB
  have HX := hidIt (heap_alloc_new w (.cells #[.int .i64 n, .slice a l c] 24))
  have HB := hidIt (bgrow w (.cells #[.int .i64 n, .slice a l c] 24))
  obtain x0 := cell_two0 HX.out
  have lx := lt_of_block HX.out
  by_cases h1 : 0 ≤ i <;> by_cases h2 : i < n
  all_goals (
    go_enter Tryd.func46, Tryd.ntmps46
    go_wp2_with fail
    go_ret
    exact ⟨ret_bool (by simp [h1, h2]), HB.out⟩)

theorem take_all {α : Type} {xs ys : List α} {k : Nat} (h : xs.take k = ys.take k) (hx : k = xs.length) (hy : k = ys.length) : xs = ys := by
  rw [List.take_of_length_le (by omega), List.take_of_length_le (by omega)] at h
  exact h
theorem take_step {α : Type} {xs ys : List α} {k : Nat} (h : xs.take k = ys.take k) (hx : k < xs.length) (hy : k < ys.length) (he : xs[k] = ys[k]) : xs.take (k + 1) = ys.take (k + 1) := by
  rw [List.take_succ_eq_append_getElem hx, List.take_succ_eq_append_getElem hy, h, he]
theorem take_neq {α : Type} {xs ys : List α} {k : Nat} (hx : k < xs.length) (hy : k < ys.length) (he : xs[k] ≠ ys[k]) : xs ≠ ys := fun e => he (by subst e; rfl)

set_option maxRecDepth 100000 in
set_option maxHeartbeats 1000000 in
/-- Are two lists of numbers equal? -/
theorem kInts_any (v1 v2 : Value) (xs ys : List Int) (w : World) (h1 : IL w v1 xs) (h2 : IL w v2 ys) (hn : xs.length ≤ 1000000) (hm : ys.length ≤ 1000000) :
    Calls Tryd.prog 23 #[v1, v2] w fun e w' => e = .returned (.bool (decide (xs = ys))) ∧ Below w.heap.size w w' := by
  obtain ⟨a1, c1, rfl, k1⟩ := h1.form
  obtain ⟨a2, c2, rfl, k2⟩ := h2.form
  have K1 := hidIt k1
  have K2 := hidIt k2
  clear k1 k2 h1 h2
  by_cases hl : xs.length = ys.length
  rotate_left
  · have hlb : ((xs.length : Int) != (ys.length : Int)) = true := bne_iff_ne.2 (by omega)
    go_enter Tryd.func23, Tryd.ntmps23
    go_wp2_with fail
    go_ret
    exact ⟨ret_bool (by rw [decide_eq_false (fun e => hl (by rw [e]))]), Below.refl _ _⟩
  have HL := hidIt hl
  have hlb : ((xs.length : Int) != (ys.length : Int)) = false := by rw [hl]; exact bne_self_eq_false _
  clear hl
  obtain ⟨L, hL⟩ : ∃ L, L = ys.length := ⟨_, rfl⟩
  have HY := hidIt hL
  rw [← hL] at HL hlb hm ⊢
  obtain ⟨M, hM⟩ : ∃ M, M = xs.length := ⟨_, rfl⟩
  have HX := hidIt hM
  rw [← hM] at HL hlb hn ⊢
  clear hL hM
  go_enter Tryd.func23, Tryd.ntmps23
  go_wp2_with fail
  go_loopw [5, 13] (fun _ i wr => ∃ k m : Nat, k ≤ M ∧ i = .int .i64 k ∧ wr = w.drewN m ∧ Hid (xs.take k = ys.take k)) (fun _ i _ => M - (intOf i).toNat)
  case atStart => exact ⟨0, 0, Nat.zero_le _, (by first | rfl | trivial), rfl, (rfl : _ = _)⟩
  case round =>
    obtain ⟨k, m, hk, rfl, rfl, HT⟩ := hrel
    have hkI0 : (0 : Int) ≤ (k : Int) := by omega
    by_cases hlt : k < M
    · have hkI : (k : Int) < (M : Int) := by omega
      have hkL : (k : Int) < (L : Int) := by have := HL.out; omega
      obtain ⟨b1, o1, rfl, l1, p0⟩ := K1.out k (by rw [← HX.out]; exact hlt)
      obtain ⟨b2, o2, rfl, l2, q0⟩ := K2.out k (by rw [← HY.out, ← HL.out]; exact hlt)
      obtain ⟨x, hx⟩ : ∃ x, x = xs[k]'(by rw [← HX.out]; exact hlt) := ⟨_, rfl⟩
      obtain ⟨y, hy⟩ : ∃ y, y = ys[k]'(by rw [← HY.out, ← HL.out]; exact hlt) := ⟨_, rfl⟩
      rw [← hx] at p0
      rw [← hy] at q0
      have EX := hidIt hx
      have EY := hidIt hy
      clear hx hy
      by_cases he : x = y
      · have hb : (x != y) = false := by rw [he]; exact bne_self_eq_false _
        have HE := hidIt he
        clear he
        go_wp2_with fail
        go_quiet (fail)
        go_wp2_with fail
        go_roundw
        case rel => exact ⟨k + 1, _, by omega, by go_num, (by first | rfl | exact World.drewN_drewN _ _ _), take_step HT.out (by rw [← HX.out]; exact hlt) (by rw [← HY.out, ← HL.out]; exact hlt) (by rw [← EX.out, ← EY.out]; exact HE.out)⟩
        case measure => simp [intOf]; omega
      · have hb : (x != y) = true := bne_iff_ne.2 he
        have HE := hidIt he
        clear he
        go_wp2_with fail
        go_quiet (fail)
        go_wp2_with fail
        go_ret
        exact ⟨ret_bool (by rw [decide_eq_false (take_neq (k := k) (by rw [← HX.out]; exact hlt) (by rw [← HY.out, ← HL.out]; exact hlt) (by rw [← EX.out, ← EY.out]; exact HE.out))]), by first | exact Below.drewN (Below.refl _ _) _ | exact ⟨rfl, rfl, rfl, Nat.le_refl _, fun _ _ => rfl⟩⟩
    · have hkI : ¬ (k : Int) < (M : Int) := by omega
      have HEQ : Hid (xs = ys) := take_all HT.out (by rw [← HX.out]; omega) (by rw [← HY.out, ← HL.out]; omega)
      go_wp2_with fail
      go_ret
      exact ⟨ret_bool (by rw [decide_eq_true HEQ.out]), ⟨rfl, rfl, rfl, Nat.le_refl _, fun _ _ => rfl⟩⟩

set_option maxRecDepth 100000 in
set_option maxHeartbeats 1000000 in
/-- Is a number in a list? -/
theorem kIn_any (v : Value) (xs : List Int) (x : Int) (w : World) (h : IL w v xs) (hn : xs.length ≤ 1000000) :
    Calls Tryd.prog 29 #[v, .int .i64 x] w fun e w' => e = .returned (.bool (decide (x ∈ xs))) ∧ w' = w := by
  obtain ⟨a1, c1, rfl, k1⟩ := h.form
  have K1 := hidIt k1
  clear k1 h
  obtain ⟨M, hM⟩ : ∃ M, M = xs.length := ⟨_, rfl⟩
  have HX := hidIt hM
  rw [← hM] at hn ⊢
  clear hM
  go_enter Tryd.func29, Tryd.ntmps29
  go_wp2_with fail
  go_loopw [5, 8] (fun _ i wr => ∃ k : Nat, k ≤ M ∧ i = .int .i64 k ∧ wr = w ∧ Hid (x ∉ xs.take k)) (fun _ i _ => M - (intOf i).toNat)
  case atStart => exact ⟨0, Nat.zero_le _, (by first | rfl | trivial), (by first | rfl | trivial), (show x ∉ xs.take 0 from by simp)⟩
  case round =>
    obtain ⟨k, hk, rfl, rfl, HT⟩ := hrel
    have hkI0 : (0 : Int) ≤ (k : Int) := by omega
    by_cases hlt : k < M
    · have hkI : (k : Int) < (M : Int) := by omega
      have HLT : Hid (k < xs.length) := by show k < _; rw [← HX.out]; exact hlt
      obtain ⟨b1, o1, rfl, l1, p0⟩ := K1.out k HLT.out
      obtain ⟨y, hy⟩ : ∃ y, y = xs[k]'HLT.out := ⟨_, rfl⟩
      rw [← hy] at p0
      have EY := hidIt hy
      clear hy
      by_cases he : y = x
      · have hb : (y == x) = true := beq_iff_eq.2 he
        have HE : Hid (x ∈ xs) := by show x ∈ xs; rw [← he, EY.out]; exact List.getElem_mem _
        clear he
        go_wp2_with fail
        go_ret
        exact ⟨ret_bool (by rw [decide_eq_true HE.out]), rfl⟩
      · have hb : (y == x) = false := beq_eq_false_iff_ne.2 he
        have HE : Hid (x ∉ xs.take (k + 1)) := by
          show x ∉ _
          rw [List.take_succ_eq_append_getElem HLT.out, List.mem_append, List.mem_singleton, ← EY.out]
          rintro (h | h)
          · exact HT.out h
          · exact he h.symm
        clear he
        go_wp2_with fail
        go_roundw
        case rel => exact ⟨k + 1, by omega, by go_num, (by first | rfl | trivial), HE.out⟩
        case measure => simp [intOf]; omega
    · have hkI : ¬ (k : Int) < (M : Int) := by omega
      have HE : Hid (x ∉ xs) := by
        have := HT.out
        rwa [List.take_of_length_le (by rw [← HX.out]; omega)] at this
      go_wp2_with fail
      go_ret
      exact ⟨ret_bool (by rw [decide_eq_false HE.out]), rfl⟩
end Go.Proofs.YtfiaoibfejginaaDoor
