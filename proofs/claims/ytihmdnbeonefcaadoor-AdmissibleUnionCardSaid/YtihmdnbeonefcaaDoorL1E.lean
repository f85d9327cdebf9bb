/- The reference's Meet and In; With: the program's and the reference's. -/
import Derived.Test.YtihmdnbeonefcaaDoorL1D
namespace Go.Proofs.YtihmdnbeonefcaaDoor
set_option linter.unusedVariables false
set_option linter.unusedSimpArgs false
open Go Go.RowKit Go.Sort

theorem OwnI.news {w : World} {B k c : Nat} {a : Option Addr} {zs : List Int} (h : OwnI w B (.slice a k c) zs) (hl : zs.length = k) (o : Obj) : World.ownsRow (w.alloc o) B 3 1 (.slice a k c) k (zs.map (Value.int .i64)) := by
  have h2 := h.go (bgrow w o)
  unfold OwnI at h2
  rw [hl] at h2
  exact h2
theorem OwnI.done {w : World} {B k : Nat} {v : Value} {zs : List Int} {z : Int} (hl : zs.length = k) (h : World.ownsRow w B 3 1 v (k + 1) (zs.map (Value.int .i64) ++ [.int .i64 z])) : OwnI w B v (zs ++ [z]) := by
  subst hl
  exact OwnI.snoc h
theorem OwnI.drewN {w : World} {B : Nat} {v : Value} {zs : List Int} (h : OwnI w B v zs) (n : Nat) : OwnI (w.drewN n) B v zs := owns_kept h (fun g e => rfl)
theorem below_drewN9 {n : Nat} {w a : World} (h : Below n w a) (m : Nat) : Below n w (a.drewN m) := ⟨h.os, h.tape, h.output, h.size, h.block⟩

set_option maxRecDepth 100000 in
set_option maxHeartbeats 1000000 in
/-- Is a number in a list? -/
theorem rlIn_any (v : Value) (xs : List Int) (x : Int) (w : World) (h : IL w v xs) (hn : xs.length ≤ 1000000) :
    Calls Tryd.prog 56 #[v, .int .i64 x] w fun e w' => e = .returned (.bool (decide (x ∈ xs))) ∧ w' = w := by
  obtain ⟨a1, c1, rfl, k1⟩ := h.form
  have K1 := hidIt k1
  clear k1 h
  obtain ⟨M, hM⟩ : ∃ M, M = xs.length := ⟨_, rfl⟩
  have HX := hidIt hM
  rw [← hM] at hn ⊢
  clear hM
  go_enter Tryd.func56, Tryd.ntmps56
  go_wp2_with fail
  go_loopw [5] (fun i wr => ∃ k : Nat, k ≤ M ∧ i = .int .i64 k ∧ wr = w ∧ Hid (x ∉ xs.take k)) (fun i _ => M - (intOf i).toNat)
  case atStart => exact ⟨0, Nat.zero_le _, (by first | rfl | trivial), (by first | rfl | trivial), (show x ∉ xs.take 0 from by simp)⟩
  case round =>
    obtain ⟨k, hk, rfl, rfl, HT⟩ := hrel
    have hkI0 : (0 : Int) ≤ (k : Int) := by omega
    by_cases hlt : k < M
    · have hkI : (k : Int) < (M : Int) := by omega
      have HLT : Hid (k < xs.length) := by show k < _; rw [← HX.out]; exact hlt
      obtain ⟨b1, o1, rfl, l1, p0⟩ := K1.out k HLT.out
      obtain ⟨y, hy⟩ : ∃ y, y = xs[k]'HLT.out := ⟨_, rfl⟩
      rw [← hy] at p0
      have EY := hidIt hy
      clear hy
      by_cases he : y = x
      · have hb : (y == x) = true := beq_iff_eq.2 he
        have HE : Hid (x ∈ xs) := by show x ∈ xs; rw [← he, EY.out]; exact List.getElem_mem _
        clear he
        go_wp2_with fail
        go_ret
        exact ⟨ret_bool (by rw [decide_eq_true HE.out]), rfl⟩
      · have hb : (y == x) = false := beq_eq_false_iff_ne.2 he
        have HE : Hid (x ∉ xs.take (k + 1)) := by
          show x ∉ _
          rw [List.take_succ_eq_append_getElem HLT.out, List.mem_append, List.mem_singleton, ← EY.out]
          rintro (h | h)
          · exact HT.out h
          · exact he h.symm
        clear he
        go_wp2_with fail
        go_roundw
        case rel => exact ⟨k + 1, by omega, by go_num, (by first | rfl | trivial), HE.out⟩
        case measure => simp [intOf]; omega
    · have hkI : ¬ (k : Int) < (M : Int) := by omega
      have HE : Hid (x ∉ xs) := by
        have := HT.out
        rwa [List.take_of_length_le (by rw [← HX.out]; omega)] at this
      go_wp2_with fail
      go_ret
      exact ⟨ret_bool (by rw [decide_eq_false HE.out]), rfl⟩

/-- The places of the elements that are x. -/
def withF (xs : List Int) (x : Int) : List Nat := (List.range xs.length).filter fun i => decide (xs[i]? = some x)
def withTo (xs : List Int) (x : Int) (k : Nat) : List Nat := (List.range k).filter fun i => decide (xs[i]? = some x)
theorem withTo_step (xs : List Int) (x : Int) {k : Nat} (h : k < xs.length) : withTo xs x (k + 1) = withTo xs x k ++ if xs[k] = x then [k] else [] := by
  have e := List.getElem?_eq_getElem (l := xs) h
  unfold withTo
  rw [List.range_succ, List.filter_append]
  congr 1
  by_cases hx : xs[k] = x
  · rw [if_pos hx]; simp [e, hx]
  · rw [if_neg hx]; simp [e, hx]
theorem withTo_len (xs : List Int) (x : Int) (k : Nat) : (withTo xs x k).length ≤ k := by
  unfold withTo
  exact Nat.le_trans (List.length_filter_le _ _) (by rw [List.length_range]; exact Nat.le_refl _)
theorem mem_withF {xs : List Int} {x : Int} {i : Nat} : i ∈ withF xs x ↔ xs[i]? = some x := by
  unfold withF
  rw [List.mem_filter, List.mem_range, decide_eq_true_eq]
  exact ⟨fun h => h.2, fun h => ⟨by
    rcases Nat.lt_or_ge i xs.length with h' | h'
    · exact h'
    · rw [List.getElem?_eq_none h'] at h; (cases h), h⟩⟩

set_option maxRecDepth 100000 in
set_option maxHeartbeats 2000000 in
theorem lWith_any (v : Value) (xs : List Int) (x : Int) (w : World) (h : IL w v xs) (hn : xs.length ≤ 100000) :
    Calls Tryd.prog 39 #[v, .int .i64 x] w fun e w' => ∃ (a : Option Addr) (c : Nat), e = .returned (.slice a (withF xs x).length c) ∧ OwnI w' w.heap.size (.slice a (withF xs x).length c) (ints (withF xs x)) ∧ Below w.heap.size w w' := by
  obtain ⟨a1, c1, rfl, k1⟩ := h.ic
  have K1 := hidIt k1
  clear k1 h
  obtain ⟨M, hM⟩ : ∃ M, M = xs.length := ⟨_, rfl⟩
  have HX := hidIt hM
  have HWF : Hid (withF xs x = withTo xs x M) := by show _ = _; rw [hM]; rfl
  rw [← hM] at hn ⊢
  clear hM
  go_enter Tryd.func39, Tryd.ntmps39
  go_wp2_with fail
  go_loopw [5, 6, 7, 10] (fun v5 _ _ i wr => ∃ (k l : Nat) (a : Option Addr) (c : Nat), k ≤ M ∧ v5 = .slice a l c ∧ i = .int .i64 k ∧ Hid (l = (withTo xs x k).length) ∧ Hid (OwnI wr w.heap.size (.slice a l c) (ints (withTo xs x k))) ∧ Hid (Below w.heap.size w wr)) (fun _ _ _ i _ => M - (intOf i).toNat)
  case atStart => exact ⟨0, 0, none, 0, Nat.zero_le _, (by first | rfl | trivial), (by first | rfl | trivial), (rfl : 0 = (withTo xs x 0).length), OwnI.nil _ _, Below.refl _ _⟩
  case round =>
    obtain ⟨k, l, a, c, hk, rfl, rfl, HL, HO, HB⟩ := hrel
    have hkI0 : (0 : Int) ≤ (k : Int) := by omega
    by_cases hlt : k < M
    · have hkI : (k : Int) < (M : Int) := by omega
      have h1x : k < xs.length := by have := HX.out; omega
      have HST := hidIt (withTo_step xs x h1x)
      have HTL : Hid ((ints (withTo xs x k)).length = l) := by show _ = _; rw [ints_len]; exact HL.out.symm
      have hl5 : l ≤ k := by rw [HL.out]; exact withTo_len _ _ _
      obtain ⟨b1, o1, rfl, l1, hc1⟩ := (K1.out.go HB.out).at_ h1x
      have p0 := hc1 k h1x
      clear hc1
      generalize xs[k] = z at *
      clear h1x
      by_cases he : z = x
      · have hb : (z == x) = true := beq_iff_eq.2 he
        rw [if_pos he] at HST
        clear he
        have HO7 := hidIt (HO.out.news HTL.out (.cells #[.int .i64 (k : Int)] 3))
        have HB7 := hidIt (HB.out.trans (Below.mono (bgrow wr (.cells #[.int .i64 (k : Int)] 3)) HB.out.size))
        have hsz7 : w.heap.size ≤ (wr.alloc (.cells #[.int .i64 (k : Int)] 3)).heap.size := HB7.out.size
        go_wp2_with (at_builtin; refine Hid.out ?_)
        refine hidIt ?_
        refine wpList_append_kb rfl _ _ elemI rfl w.heap.size (.slice a l c) l _ rfl HO7.out _ 1 rfl #[.int .i64 (k : Int)] 3 (heap_alloc_new _ _) rfl (one_of (by rfl)) (by omega) hsz7 ?_
        intro g8 c8 w8 hown8 hg8 hbl8
        have HB8 := hidIt (below_app5 HB7.out hg8 (fun g e => (owns_blk HO7.out g e).1) hsz7)
        have HO8 : Hid (OwnI w8 w.heap.size (.slice (some ⟨g8, 0, none⟩) (l + 1) c8) (ints (withTo xs x (k + 1)))) := by
          have := OwnI.done HTL.out hown8
          show OwnI _ _ _ _
          rw [HST.out]
          unfold ints at this ⊢
          rw [List.map_append]
          exact this
        have HL8 : Hid (l + 1 = (withTo xs x (k + 1)).length) := by show _ = _; rw [HST.out, List.length_append, ← HL.out]; rfl
        clear hown8 hg8 hbl8 HO7 HB7 hsz7 HO HB p0 l1
        go_wp2_with fail
        go_roundw
        case rel => exact ⟨k + 1, l + 1, some ⟨g8, 0, none⟩, c8, by omega, (by first | rfl | trivial), by go_num, HL8.out, HO8.out, HB8.out⟩
        case measure => simp [intOf]; omega
      · have hb : (z == x) = false := beq_eq_false_iff_ne.2 he
        rw [if_neg he, List.append_nil] at HST
        clear he
        go_wp2_with fail
        go_roundw
        case rel => exact ⟨k + 1, l, a, c, by omega, (by first | rfl | trivial), by go_num, (by rw [HST.out]; exact HL.out), (by rw [HST.out]; exact HO.out), HB.out⟩
        case measure => simp [intOf]; omega
    · obtain rfl : k = M := by omega
      have hkI : ¬ (k : Int) < (k : Int) := by omega
      go_wp2_with fail
      go_ret
      rw [HWF.out, ← HL.out]
      exact ⟨a, c, rfl, HO.out, HB.out⟩

end Go.Proofs.YtihmdnbeonefcaaDoor
