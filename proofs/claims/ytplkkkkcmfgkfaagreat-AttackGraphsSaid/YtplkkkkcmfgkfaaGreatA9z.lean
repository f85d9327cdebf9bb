/- attack.compare, for every two attacks. -/
import Derived.Test.YtplkkkkcmfgkfaaGreatA9y
namespace Go.Proofs.YtplkkkkcmfgkfaaGreat
set_option linter.unusedVariables false
set_option linter.unusedSimpArgs false
open Go Go.RowKit Go.Sort

def isFour9 (x y z u : Int) : Value → World → Prop := fun v w => ∃ g : Nat, v = .slice (some ⟨g, 0, none⟩) 4 4 ∧ w.heap[g]? = some (.cells #[.int .i64 x, .int .i64 y, .int .i64 z, .int .i64 u] 3 (0, 0))
theorem four0 {w : World} {P : Nat} {a b c d : Value} {t : TypeId} (h : w.heap[P]? = some (.cells #[a, b, c, d] t (0, 0))) : w.cell? ⟨P, 0, none⟩ = some a ∧ w.cell? ⟨P, 1, none⟩ = some b ∧ w.cell? ⟨P, 2, none⟩ = some c ∧ w.cell? ⟨P, 3, none⟩ = some d := by
  refine ⟨?_, ?_, ?_, ?_⟩ <;> simp [World.cell?, h]
set_option maxRecDepth 100000 in
set_option maxHeartbeats 2000000 in
theorem cmpAtt_any (xf xt xs xk yf yt ys yk : Int) (w : World) :
    Calls Tryz.prog 32 #[.agg #[.int .i64 xf, .int .i64 xt, .int .i64 xs, .int .i64 xk], .agg #[.int .i64 yf, .int .i64 yt, .int .i64 ys, .int .i64 yk]] w fun e w' => e = .returned (.int .i64 (orI [Lib.compareInt xf yf, Lib.compareInt xt yt, Lib.compareInt xs ys, Lib.compareInt xk yk])) ∧ GrownD w w' := by
  obtain ⟨E, hor⟩ : ∃ E, orI [Lib.compareInt xf yf, Lib.compareInt xt yt, Lib.compareInt xs ys, Lib.compareInt xk yk] = E := ⟨_, rfl⟩
  have HOR := hidIt hor
  rw [hor]
  clear hor
  have hX := heap_alloc_new w (.cells #[.int .i64 xf, .int .i64 xt, .int .i64 xs, .int .i64 xk] 28)
  have hX2 := (below_grow (w.alloc (.cells #[.int .i64 xf, .int .i64 xt, .int .i64 xs, .int .i64 xk] 28)) #[.cells #[.int .i64 yf, .int .i64 yt, .int .i64 ys, .int .i64 yk] 28]).block w.heap.size (lt_of_block hX)
  rw [← Sort.alloc_eq_grow] at hX2
  have hY := heap_alloc_new (w.alloc (.cells #[.int .i64 xf, .int .i64 xt, .int .i64 xs, .int .i64 xk] 28)) (.cells #[.int .i64 yf, .int .i64 yt, .int .i64 ys, .int .i64 yk] 28)
  have HG : Hid (GrownD w ((w.alloc (.cells #[.int .i64 xf, .int .i64 xt, .int .i64 xs, .int .i64 xk] 28)).alloc (.cells #[.int .i64 yf, .int .i64 yt, .int .i64 ys, .int .i64 yk] 28))) := ((GrownD.refl w).alloc _).alloc _
  obtain ⟨x0, x1, x2, x3⟩ := four0 (hX2.trans hX)
  obtain ⟨y0, y1, y2, y3⟩ := four0 hY
  have lx := lt_of_block (hX2.trans hX)
  have ly := lt_of_block hY
  clear hX hX2 hY
  go_enter Tryz.func32, Tryz.ntmps32
  go_upto_region 1 with (fail)
  have hsz : (w.alloc (.cells #[.int .i64 xf, .int .i64 xt, .int .i64 xs, .int .i64 xk] 28)).heap.size = w.heap.size + 1 := by simp
  rw [hsz] at y0 y1 y2 y3 ly
  clear hsz
  generalize ((w.alloc (.cells #[.int .i64 xf, .int .i64 xt, .int .i64 xs, .int .i64 xk] 28)).alloc (.cells #[.int .i64 yf, .int .i64 yt, .int .i64 ys, .int .i64 yk] 28)) = w1 at *
  have X0 : ∀ wx, GrownD w1 wx → wx.cell? ⟨w.heap.size, 0, none⟩ = some (.int .i64 xf) := fun wx hC => (Below.cell (p := ⟨w.heap.size, 0, none⟩) hC.below lx).trans x0
  have Y0 : ∀ wx, GrownD w1 wx → wx.cell? ⟨w.heap.size + 1, 0, none⟩ = some (.int .i64 yf) := fun wx hC => (Below.cell (p := ⟨w.heap.size + 1, 0, none⟩) hC.below ly).trans y0
  have X1 : ∀ wx, GrownD w1 wx → wx.cell? ⟨w.heap.size, 1, none⟩ = some (.int .i64 xt) := fun wx hC => (Below.cell (p := ⟨w.heap.size, 1, none⟩) hC.below lx).trans x1
  have Y1 : ∀ wx, GrownD w1 wx → wx.cell? ⟨w.heap.size + 1, 1, none⟩ = some (.int .i64 yt) := fun wx hC => (Below.cell (p := ⟨w.heap.size + 1, 1, none⟩) hC.below ly).trans y1
  have X2 : ∀ wx, GrownD w1 wx → wx.cell? ⟨w.heap.size, 2, none⟩ = some (.int .i64 xs) := fun wx hC => (Below.cell (p := ⟨w.heap.size, 2, none⟩) hC.below lx).trans x2
  have Y2 : ∀ wx, GrownD w1 wx → wx.cell? ⟨w.heap.size + 1, 2, none⟩ = some (.int .i64 ys) := fun wx hC => (Below.cell (p := ⟨w.heap.size + 1, 2, none⟩) hC.below ly).trans y2
  have X3 : ∀ wx, GrownD w1 wx → wx.cell? ⟨w.heap.size, 3, none⟩ = some (.int .i64 xk) := fun wx hC => (Below.cell (p := ⟨w.heap.size, 3, none⟩) hC.below lx).trans x3
  have Y3 : ∀ wx, GrownD w1 wx → wx.cell? ⟨w.heap.size + 1, 3, none⟩ = some (.int .i64 yk) := fun wx hC => (Below.cell (p := ⟨w.heap.size + 1, 3, none⟩) hC.below ly).trans y3
  refine wp_region_rel (GrownD w1) GrownD (relTab [(9, isVal9 (.int .i64 (Lib.compareInt xf yf))), (14, isVal9 (.int .i64 (Lib.compareInt xt yt))), (19, isVal9 (.int .i64 (Lib.compareInt xs ys))), (24, isVal9 (.int .i64 (Lib.compareInt xk yk))), (25, isFour9 (Lib.compareInt xf yf) (Lib.compareInt xt yt) (Lib.compareInt xs ys) (Lib.compareInt xk yk)), (26, isVal9 (.int .i64 E))]) (by kernel_rfl) (by kernel_rfl) (by kernel_rfl) (fun t r hs v x y hx hy hg hr => ?_) (GrownD.refl w1).drew ?_
  · unfold relTab at hs
    split at hs
    · injection hs with hs; subst hs; exact hr
    unfold relTab at hs
    split at hs
    · injection hs with hs; subst hs; exact hr
    unfold relTab at hs
    split at hs
    · injection hs with hs; subst hs; exact hr
    unfold relTab at hs
    split at hs
    · injection hs with hs; subst hs; exact hr
    unfold relTab at hs
    split at hs
    · injection hs with hs
      subst hs
      obtain ⟨gb, h1, h2⟩ := hr
      exact ⟨gb, h1, (hg.below.block gb (lt_of_block h2)).trans h2⟩
    unfold relTab at hs
    split at hs
    · injection hs with hs; subst hs; exact hr
    · cases hs
  repeat (
    refine' walkR_plain (by kernel_rfl) rfl rfl (fun wx hC hL => ?_) ?_
    rotate_left
    · (have hlx := Nat.lt_of_lt_of_le lx hC.below.size
       have hly := Nat.lt_of_lt_of_le ly hC.below.size
       simp only [X0 wx hC, X1 wx hC, X2 wx hC, X3 wx hC, Y0 wx hC, Y1 wx hC, Y2 wx hC, Y3 wx hC, hlx, hly, go_sem]; first | done | (go_simp; exact ⟨rfl, rfl⟩))
    simp only [Act.put, List.setIfInBounds_toArray, List.set_cons_zero, List.set_cons_succ])
  refine walkR_rel (by kernel_rfl) rfl rfl (of_decide_eq_true (by kernel_rfl)) (fun wx hC hL => ?_) (fun v hv => ?_)
  · go_simp
    exact (Tryz.cmp_Compare_int xf yf wx).mono fun e w' ⟨he, hw⟩ => ⟨_, he, by rw [hw]; exact hC, by rw [hw]; exact GrownD.refl _, rfl⟩
  obtain ⟨_, _, rfl⟩ := hv
  simp only [Act.put, List.setIfInBounds_toArray, List.set_cons_zero, List.set_cons_succ]
  repeat (
    refine' walkR_plain (by kernel_rfl) rfl rfl (fun wx hC hL => ?_) ?_
    rotate_left
    · (have hlx := Nat.lt_of_lt_of_le lx hC.below.size
       have hly := Nat.lt_of_lt_of_le ly hC.below.size
       simp only [X0 wx hC, X1 wx hC, X2 wx hC, X3 wx hC, Y0 wx hC, Y1 wx hC, Y2 wx hC, Y3 wx hC, hlx, hly, go_sem]; first | done | (go_simp; exact ⟨rfl, rfl⟩))
    simp only [Act.put, List.setIfInBounds_toArray, List.set_cons_zero, List.set_cons_succ])
  refine walkR_rel (by kernel_rfl) rfl rfl (of_decide_eq_true (by kernel_rfl)) (fun wx hC hL => ?_) (fun v hv => ?_)
  · go_simp
    exact (Tryz.cmp_Compare_int xt yt wx).mono fun e w' ⟨he, hw⟩ => ⟨_, he, by rw [hw]; exact hC, by rw [hw]; exact GrownD.refl _, rfl⟩
  obtain ⟨_, _, rfl⟩ := hv
  simp only [Act.put, List.setIfInBounds_toArray, List.set_cons_zero, List.set_cons_succ]
  repeat (
    refine' walkR_plain (by kernel_rfl) rfl rfl (fun wx hC hL => ?_) ?_
    rotate_left
    · (have hlx := Nat.lt_of_lt_of_le lx hC.below.size
       have hly := Nat.lt_of_lt_of_le ly hC.below.size
       simp only [X0 wx hC, X1 wx hC, X2 wx hC, X3 wx hC, Y0 wx hC, Y1 wx hC, Y2 wx hC, Y3 wx hC, hlx, hly, go_sem]; first | done | (go_simp; exact ⟨rfl, rfl⟩))
    simp only [Act.put, List.setIfInBounds_toArray, List.set_cons_zero, List.set_cons_succ])
  refine walkR_rel (by kernel_rfl) rfl rfl (of_decide_eq_true (by kernel_rfl)) (fun wx hC hL => ?_) (fun v hv => ?_)
  · go_simp
    exact (Tryz.cmp_Compare_int xs ys wx).mono fun e w' ⟨he, hw⟩ => ⟨_, he, by rw [hw]; exact hC, by rw [hw]; exact GrownD.refl _, rfl⟩
  obtain ⟨_, _, rfl⟩ := hv
  simp only [Act.put, List.setIfInBounds_toArray, List.set_cons_zero, List.set_cons_succ]
  repeat (
    refine' walkR_plain (by kernel_rfl) rfl rfl (fun wx hC hL => ?_) ?_
    rotate_left
    · (have hlx := Nat.lt_of_lt_of_le lx hC.below.size
       have hly := Nat.lt_of_lt_of_le ly hC.below.size
       simp only [X0 wx hC, X1 wx hC, X2 wx hC, X3 wx hC, Y0 wx hC, Y1 wx hC, Y2 wx hC, Y3 wx hC, hlx, hly, go_sem]; first | done | (go_simp; exact ⟨rfl, rfl⟩))
    simp only [Act.put, List.setIfInBounds_toArray, List.set_cons_zero, List.set_cons_succ])
  refine walkR_rel (by kernel_rfl) rfl rfl (of_decide_eq_true (by kernel_rfl)) (fun wx hC hL => ?_) (fun v hv => ?_)
  · go_simp
    exact (Tryz.cmp_Compare_int xk yk wx).mono fun e w' ⟨he, hw⟩ => ⟨_, he, by rw [hw]; exact hC, by rw [hw]; exact GrownD.refl _, rfl⟩
  obtain ⟨_, _, rfl⟩ := hv
  simp only [Act.put, List.setIfInBounds_toArray, List.set_cons_zero, List.set_cons_succ]
  refine walkR_rel (by kernel_rfl) rfl rfl (of_decide_eq_true (by kernel_rfl)) (fun wx hC hL => ?_) (fun v hv => ?_)
  · go_simp
    exact ⟨hC.alloc _, (GrownD.refl wx).alloc _, _, rfl, heap_alloc_new _ _⟩
  obtain ⟨_, _, gb, rfl, hgb⟩ := hv
  simp only [Act.put, List.setIfInBounds_toArray, List.set_cons_zero, List.set_cons_succ]
  refine walkR_rel (by kernel_rfl) rfl rfl (of_decide_eq_true (by kernel_rfl)) (fun wx hC hL => ?_) (fun v hv => ?_)
  · have h15 : isFour9 (Lib.compareInt xf yf) (Lib.compareInt xt yt) (Lib.compareInt xs ys) (Lib.compareInt xk yk) (.slice (some ⟨gb, 0, none⟩) 4 4) wx := hL.get 25 (by simp [more]) (by kernel_rfl) rfl rfl
    obtain ⟨gb', he, hb'⟩ := h15
    injection he with he
    injection he with he
    injection he with he
    subst he
    go_simp
    exact (cmpOr_any gb [Lib.compareInt xf yf, Lib.compareInt xt yt, Lib.compareInt xs ys, Lib.compareInt xk yk] 3 wx hb' (by simp)).mono fun e w' ⟨he, hw⟩ => ⟨_, he, by rw [hw]; exact hC, by rw [hw]; exact GrownD.refl _, by rw [HOR.out]; rfl⟩
  obtain ⟨_, _, rfl⟩ := hv
  simp only [Act.put, List.setIfInBounds_toArray, List.set_cons_zero, List.set_cons_succ]
  repeat (
    refine' walkR_plain (by kernel_rfl) rfl rfl (fun wx hC hL => ?_) ?_
    rotate_left
    · (have hlx := Nat.lt_of_lt_of_le lx hC.below.size
       have hly := Nat.lt_of_lt_of_le ly hC.below.size
       simp only [X0 wx hC, X1 wx hC, X2 wx hC, X3 wx hC, Y0 wx hC, Y1 wx hC, Y2 wx hC, Y3 wx hC, hlx, hly, go_sem]; first | done | (go_simp; exact ⟨rfl, rfl⟩))
    simp only [Act.put, List.setIfInBounds_toArray, List.set_cons_zero, List.set_cons_succ])
  refine fun w2 hC2 _ => ?_
  have hfin : GrownD w w2 := by
    obtain ⟨q, os, h1⟩ := HG.out
    obtain ⟨q2, os2, h2⟩ := hC2
    exact ⟨q + q2, os ++ os2, by rw [h2, h1, show (Sort.grow (w.drewN q) os).drewN q2 = Sort.grow ((w.drewN q).drewN q2) os from rfl, World.drewN_drewN, Sort.grow_grow]⟩
  have HFIN := hidIt hfin
  clear hfin hC2 X0 X1 X2 X3 Y0 Y1 Y2 Y3 x0 x1 x2 x3 y0 y1 y2 y3
  go_wp2_with fail
  go_ret
  exact ⟨rfl, HFIN.out⟩
end Go.Proofs.YtplkkkkcmfgkfaaGreat
