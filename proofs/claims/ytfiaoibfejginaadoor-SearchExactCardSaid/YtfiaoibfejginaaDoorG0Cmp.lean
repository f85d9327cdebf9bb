/- graph.compare, for every two pairs; cmp.Or at a list of numbers. -/
import Derived.Test.YtfiaoibfejginaaDoorG0Row
import Derived.Test.YtfiaoibfejginaaDoorG9M
import Derived.Test.YtfiaoibfejginaaDoorShelf
import Derived.Test.YtfiaoibfejginaaDoorG0S
import Derived.Test.YtfiaoibfejginaaDoorRelS
import Derived.Deep.Cut
namespace Go.Proofs.YtfiaoibfejginaaDoor
set_option linter.unusedVariables false
set_option linter.unusedSimpArgs false
open Go Go.RowKit Go.Sort

theorem below_grow (w : World) (os : Array Obj) : Below w.heap.size w (Sort.grow w os) :=
  ⟨rfl, rfl, rfl, by simp [Sort.grow], fun k hk => by simp [Sort.grow, Array.getElem?_append, hk]⟩
/-- Draws, and blocks that were made. -/
def GrownD (W w : World) : Prop := ∃ (q : Nat) (os : Array Obj), w = Sort.grow (W.drewN q) os
theorem GrownD.refl (w : World) : GrownD w w := ⟨0, #[], by simp [Sort.grow, World.drewN]⟩
theorem GrownD.drew {W w : World} (h : GrownD W w) : GrownD W w.drew := by
  obtain ⟨q, os, rfl⟩ := h
  exact ⟨q + 1, os, rfl⟩
theorem GrownD.alloc {W w : World} (h : GrownD W w) (o : Obj) : GrownD W (w.alloc o) := by
  obtain ⟨q, os, rfl⟩ := h
  exact ⟨q, os ++ #[o], by rw [Sort.alloc_eq_grow, Sort.grow_grow]⟩
theorem GrownD.below {W w : World} (h : GrownD W w) : Below W.heap.size W w := by
  obtain ⟨q, os, rfl⟩ := h
  have := below_grow (W.drewN q) os
  exact ⟨this.os, this.tape, this.output, this.size, this.block⟩

/-- The first number that is not 0, or 0. -/
def orI : List Int → Int
  | [] => 0
  | x :: r => if x ≠ 0 then x else orI r
set_option maxHeartbeats 1000000 in
theorem cmpOr_any (g : Nat) (zs : List Int) (t : TypeId) (w : World) (h : w.heap[g]? = some (.cells (intRow zs) t (0, 0))) (hl : zs.length ≤ 1000) :
    Calls Tryd.prog 62 #[.slice (some ⟨g, 0, none⟩) zs.length zs.length] w fun e w' => e = .returned (.int .i64 (orI zs)) ∧ w' = w := by
  have HH := hidIt h
  have lg := lt_of_block h
  clear h
  go_enter Tryd.func62, Tryd.ntmps62
  go_wp2_with fail
  go_loopw [5, 8] (fun _ i wr => ∃ k : Nat, k ≤ zs.length ∧ i = .int .i64 k ∧ wr = w ∧ Hid (orI (zs.drop k) = orI zs)) (fun _ i _ => zs.length - (intOf i).toNat)
  case atStart => exact ⟨0, Nat.zero_le _, (by first | rfl | trivial), (by first | rfl | trivial), (by first | exact trivial | exact (rfl : orI (zs.drop 0) = orI zs))⟩
  case round =>
    obtain ⟨k, hk, rfl, rfl, HO⟩ := hrel
    by_cases hlt : k < zs.length
    · have hc := int_cell HH.out k hlt
      have hkI : (k : Int) < (zs.length : Int) := by omega
      have hk0 : (0 : Int) ≤ (k : Int) := by omega
      have hd : zs.drop k = zs[k] :: zs.drop (k + 1) := List.drop_eq_getElem_cons hlt
      generalize zs[k] = x at *
      have HD : Hid (orI zs = if x ≠ 0 then x else orI (zs.drop (k + 1))) := by show _ = _; rw [← HO.out, hd, orI]
      clear hd
      by_cases hx : x = 0
      · have hxb : (x != 0) = false := by rw [hx]; rfl
        have HE : Hid (orI (zs.drop (k + 1)) = orI zs) := by show _ = _; rw [HD.out, if_neg (not_not_intro hx)]
        clear hx
        go_wp2_with fail
        go_roundw
        case rel => exact ⟨k + 1, by omega, by go_num, (by first | rfl | trivial), HE.out⟩
        case measure => simp [intOf]; omega
      · have hxb : (x != 0) = true := bne_iff_ne.2 hx
        have HE : Hid (orI zs = x) := by show _ = _; rw [HD.out, if_pos hx]
        go_wp2_with fail
        go_ret
        exact ⟨ret_int HE.out.symm, rfl⟩
    · have hke : k = zs.length := by omega
      have HE : Hid (orI zs = 0) := by show _ = _; rw [← HO.out, hke, List.drop_length]; rfl
      have hkI : ¬ (k : Int) < (zs.length : Int) := by omega
      go_wp2_with fail
      go_ret
      exact ⟨ret_int HE.out.symm, (by first | rfl | trivial)⟩

theorem cmpI_val (a b : Int) : Lib.compareInt a b = if a < b then -1 else if b < a then 1 else 0 := by
  unfold Lib.compareInt
  split <;> (try split) <;> (try split) <;> omega
theorem cmpP_or (x y : Int × Int) : orI [Lib.compareInt x.1 y.1, Lib.compareInt x.2 y.2] = cmpP x y := by
  simp only [orI, cmpI_val, cmpP]
  by_cases h1 : x.1 < y.1
  · simp [h1]
  · by_cases h2 : y.1 < x.1
    · simp [h1, h2]
    · by_cases h3 : x.2 < y.2
      · simp [h1, h2, h3]
      · by_cases h4 : y.2 < x.2 <;> simp [h1, h2, h3, h4]

/-- A value that is fixed; a list of two numbers in a block of its own. -/
def isVal9 (x : Value) : Value → World → Prop := fun v _ => v = x
def isTwo9 (x y : Int) : Value → World → Prop := fun v w => ∃ g : Nat, v = .slice (some ⟨g, 0, none⟩) 2 2 ∧ w.heap[g]? = some (.cells #[.int .i64 x, .int .i64 y] 3 (0, 0))
set_option maxRecDepth 100000 in
set_option maxHeartbeats 2000000 in
theorem cmpPairs_any (x y : Int × Int) (w : World) :
    Calls Tryd.prog 47 #[.agg #[.int .i64 x.1, .int .i64 x.2], .agg #[.int .i64 y.1, .int .i64 y.2]] w fun e w' => e = .returned (.int .i64 (cmpP x y)) ∧ GrownD w w' := by
  have hor := cmpP_or x y
  obtain ⟨g, s⟩ := x
  obtain ⟨g', s'⟩ := y
  simp only at hor
  show Calls Tryd.prog 47 #[.agg #[.int .i64 g, .int .i64 s], .agg #[.int .i64 g', .int .i64 s']] w _
  generalize cmpP (g, s) (g', s') = E at *
  have hX := heap_alloc_new w (.cells #[.int .i64 g, .int .i64 s] 45)
  have hX2 := (below_grow (w.alloc (.cells #[.int .i64 g, .int .i64 s] 45)) #[.cells #[.int .i64 g', .int .i64 s'] 45]).block w.heap.size (lt_of_block hX)
  rw [← Sort.alloc_eq_grow] at hX2
  have hY := heap_alloc_new (w.alloc (.cells #[.int .i64 g, .int .i64 s] 45)) (.cells #[.int .i64 g', .int .i64 s'] 45)
  have HG : Hid (GrownD w ((w.alloc (.cells #[.int .i64 g, .int .i64 s] 45)).alloc (.cells #[.int .i64 g', .int .i64 s'] 45))) := ((GrownD.refl w).alloc _).alloc _
  have x0 := cell_two0 (hX2.trans hX)
  have x1 := cell_two1 (hX2.trans hX)
  have y0 := cell_two0 hY
  have y1 := cell_two1 hY
  have lx := lt_of_block (hX2.trans hX)
  have ly := lt_of_block hY
  clear hX hX2 hY
  go_enter Tryd.func47, Tryd.ntmps47
  go_upto_region 1 with (fail)
  have hsz : (w.alloc (.cells #[.int .i64 g, .int .i64 s] 45)).heap.size = w.heap.size + 1 := by simp
  rw [hsz] at y0 y1 ly
  clear hsz
  generalize ((w.alloc (.cells #[.int .i64 g, .int .i64 s] 45)).alloc (.cells #[.int .i64 g', .int .i64 s'] 45)) = w1 at *
  have X0 : ∀ wx, GrownD w1 wx → wx.cell? ⟨w.heap.size, 0, none⟩ = some (.int .i64 g) := fun wx hC => (Below.cell (p := ⟨w.heap.size, 0, none⟩) hC.below lx).trans x0
  have X1 : ∀ wx, GrownD w1 wx → wx.cell? ⟨w.heap.size, 1, none⟩ = some (.int .i64 s) := fun wx hC => (Below.cell (p := ⟨w.heap.size, 1, none⟩) hC.below lx).trans x1
  have Y0 : ∀ wx, GrownD w1 wx → wx.cell? ⟨w.heap.size + 1, 0, none⟩ = some (.int .i64 g') := fun wx hC => (Below.cell (p := ⟨w.heap.size + 1, 0, none⟩) hC.below ly).trans y0
  have Y1 : ∀ wx, GrownD w1 wx → wx.cell? ⟨w.heap.size + 1, 1, none⟩ = some (.int .i64 s') := fun wx hC => (Below.cell (p := ⟨w.heap.size + 1, 1, none⟩) hC.below ly).trans y1
  refine wp_region_rel (GrownD w1) GrownD (relTab [(9, isVal9 (.int .i64 (Lib.compareInt g g'))), (14, isVal9 (.int .i64 (Lib.compareInt s s'))), (15, isTwo9 (Lib.compareInt g g') (Lib.compareInt s s')), (16, isVal9 (.int .i64 E))]) (by kernel_rfl) (by kernel_rfl) (by kernel_rfl) (fun t r hs v x y hx hy hg hr => ?_) (GrownD.refl w1).drew ?_
  · unfold relTab at hs
    split at hs
    · injection hs with hs; subst hs; exact hr
    unfold relTab at hs
    split at hs
    · injection hs with hs; subst hs; exact hr
    unfold relTab at hs
    split at hs
    · injection hs with hs
      subst hs
      obtain ⟨gb, h1, h2⟩ := hr
      exact ⟨gb, h1, (hg.below.block gb (lt_of_block h2)).trans h2⟩
    unfold relTab at hs
    split at hs
    · injection hs with hs; subst hs; exact hr
    · cases hs
  repeat (
    refine' walkR_plain (by kernel_rfl) rfl rfl (fun wx hC hL => ?_) ?_
    rotate_left
    · (have hlx := Nat.lt_of_lt_of_le lx hC.below.size
       have hly := Nat.lt_of_lt_of_le ly hC.below.size
       simp only [X0 wx hC, X1 wx hC, Y0 wx hC, Y1 wx hC, hlx, hly, go_sem]; first | done | (go_simp; exact ⟨rfl, rfl⟩))
    simp only [Act.put, List.setIfInBounds_toArray, List.set_cons_zero, List.set_cons_succ])
  refine walkR_rel (by kernel_rfl) rfl rfl (of_decide_eq_true (by kernel_rfl)) (fun wx hC hL => ?_) (fun v hv => ?_)
  · go_simp
    exact (Tryd.cmp_Compare_int g g' wx).mono fun e w' ⟨he, hw⟩ => ⟨_, he, by rw [hw]; exact hC, by rw [hw]; exact GrownD.refl _, rfl⟩
  obtain ⟨_, _, rfl⟩ := hv
  simp only [Act.put, List.setIfInBounds_toArray, List.set_cons_zero, List.set_cons_succ]
  repeat (
    refine' walkR_plain (by kernel_rfl) rfl rfl (fun wx hC hL => ?_) ?_
    rotate_left
    · (have hlx := Nat.lt_of_lt_of_le lx hC.below.size
       have hly := Nat.lt_of_lt_of_le ly hC.below.size
       simp only [X0 wx hC, X1 wx hC, Y0 wx hC, Y1 wx hC, hlx, hly, go_sem]; first | done | (go_simp; exact ⟨rfl, rfl⟩))
    simp only [Act.put, List.setIfInBounds_toArray, List.set_cons_zero, List.set_cons_succ])
  refine walkR_rel (by kernel_rfl) rfl rfl (of_decide_eq_true (by kernel_rfl)) (fun wx hC hL => ?_) (fun v hv => ?_)
  · go_simp
    exact (Tryd.cmp_Compare_int s s' wx).mono fun e w' ⟨he, hw⟩ => ⟨_, he, by rw [hw]; exact hC, by rw [hw]; exact GrownD.refl _, rfl⟩
  obtain ⟨_, _, rfl⟩ := hv
  simp only [Act.put, List.setIfInBounds_toArray, List.set_cons_zero, List.set_cons_succ]
  refine walkR_rel (by kernel_rfl) rfl rfl (of_decide_eq_true (by kernel_rfl)) (fun wx hC hL => ?_) (fun v hv => ?_)
  · go_simp
    exact ⟨hC.alloc _, (GrownD.refl wx).alloc _, _, rfl, heap_alloc_new _ _⟩
  obtain ⟨_, _, gb, rfl, hgb⟩ := hv
  simp only [Act.put, List.setIfInBounds_toArray, List.set_cons_zero, List.set_cons_succ]
  refine walkR_rel (by kernel_rfl) rfl rfl (of_decide_eq_true (by kernel_rfl)) (fun wx hC hL => ?_) (fun v hv => ?_)
  · have h15 : isTwo9 (Lib.compareInt g g') (Lib.compareInt s s') (.slice (some ⟨gb, 0, none⟩) 2 2) wx := hL.get 15 (by simp [more]) (by kernel_rfl) rfl rfl
    obtain ⟨gb', he, hb'⟩ := h15
    injection he with he
    injection he with he
    injection he with he
    subst he
    go_simp
    exact (cmpOr_any gb [Lib.compareInt g g', Lib.compareInt s s'] 3 wx hb' (by simp)).mono fun e w' ⟨he, hw⟩ => ⟨_, he, by rw [hw]; exact hC, by rw [hw]; exact GrownD.refl _, by rw [hor]; rfl⟩
  obtain ⟨_, _, rfl⟩ := hv
  simp only [Act.put, List.setIfInBounds_toArray, List.set_cons_zero, List.set_cons_succ]
  repeat (
    refine' walkR_plain (by kernel_rfl) rfl rfl (fun wx hC hL => ?_) ?_
    rotate_left
    · (have hlx := Nat.lt_of_lt_of_le lx hC.below.size
       have hly := Nat.lt_of_lt_of_le ly hC.below.size
       simp only [X0 wx hC, X1 wx hC, Y0 wx hC, Y1 wx hC, hlx, hly, go_sem]; first | done | (go_simp; exact ⟨rfl, rfl⟩))
    simp only [Act.put, List.setIfInBounds_toArray, List.set_cons_zero, List.set_cons_succ])
  refine fun w2 hC2 _ => ?_
  have hfin : GrownD w w2 := by
    obtain ⟨q, os, h1⟩ := HG.out
    obtain ⟨q2, os2, h2⟩ := hC2
    exact ⟨q + q2, os ++ os2, by rw [h2, h1, show (Sort.grow (w.drewN q) os).drewN q2 = Sort.grow ((w.drewN q).drewN q2) os from rfl, World.drewN_drewN, Sort.grow_grow]⟩
  have HFIN := hidIt hfin
  clear hfin hC2 X0 X1 Y0 Y1 x0 x1 y0 y1
  go_wp2_with fail
  go_ret
  exact ⟨rfl, HFIN.out⟩
end Go.Proofs.YtfiaoibfejginaaDoor
