/- keep.Lists; the chapter's example: what each call answers at it. -/
import Derived.Test.YtfiaoibfejginaaDoorG0B
import Derived.Test.YtfiaoibfejginaaDoorG0H
namespace Go.Proofs.YtfiaoibfejginaaDoor
set_option linter.unusedVariables false
set_option linter.unusedSimpArgs false
open Go Go.RowKit Go.Sort

theorem LL.lc {w : World} {v : Value} {zss : List (List Int)} (h : LL w v zss) : ∃ (a : Option Addr) (c : Nat), v = .slice a zss.length c ∧
    (∀ i (h : i < zss.length), ∃ b off ua un uc, a = some ⟨b, off, none⟩ ∧ b < w.heap.size ∧ w.cell? ⟨b, off + i, none⟩ = some (.slice ua un uc) ∧ IL w (.slice ua un uc) zss[i]) := by
  obtain ⟨a, c, rfl, hf⟩ := h.form
  refine ⟨a, c, rfl, fun i hi => ?_⟩
  obtain ⟨b, off, u, h1, h2, h3, h4⟩ := hf i hi
  obtain ⟨ua, uc, rfl, -⟩ := h4.ic
  exact ⟨b, off, ua, _, uc, h1, h2, h3, h4⟩

set_option maxRecDepth 100000 in
set_option maxHeartbeats 2000000 in
/-- Are two lists of lists equal? -/
theorem kLists_any (v1 v2 : Value) (xs ys : List (List Int)) (w : World) (h1 : LL w v1 xs) (h2 : LL w v2 ys) (hn : xs.length ≤ 1000) (hm : ys.length ≤ 1000) (hx : ∀ x ∈ xs, x.length ≤ 1000) (hy : ∀ y ∈ ys, y.length ≤ 1000) :
    Calls Tryd.prog 16 #[v1, v2] w fun e w' => e = .returned (.bool (decide (xs = ys))) ∧ Below w.heap.size w w' := by
  obtain ⟨a1, c1, rfl, k1⟩ := h1.lc
  obtain ⟨a2, c2, rfl, k2⟩ := h2.lc
  have K1 := hidIt k1
  have K2 := hidIt k2
  have HXX := hidIt hx
  have HYY := hidIt hy
  clear k1 k2 h1 h2 hx hy
  by_cases hl : xs.length = ys.length
  rotate_left
  · have hlb : ((xs.length : Int) != (ys.length : Int)) = true := bne_iff_ne.2 (by omega)
    go_enter Tryd.func16, Tryd.ntmps16
    go_wp2_with fail
    go_ret
    exact ⟨ret_bool (by rw [decide_eq_false (fun e => hl (by rw [e]))]), Below.refl _ _⟩
  have HL := hidIt hl
  have hlb : ((xs.length : Int) != (ys.length : Int)) = false := by rw [hl]; exact bne_self_eq_false _
  clear hl
  obtain ⟨L, hL⟩ : ∃ L, L = ys.length := ⟨_, rfl⟩
  have HY := hidIt hL
  rw [← hL] at HL hlb hm ⊢
  obtain ⟨M, hM⟩ : ∃ M, M = xs.length := ⟨_, rfl⟩
  have HX := hidIt hM
  rw [← hM] at HL hlb hn ⊢
  clear hL hM
  go_enter Tryd.func16, Tryd.ntmps16
  go_wp2_with fail
  go_loopw [5, 13] (fun _ i wr => ∃ k : Nat, k ≤ M ∧ i = .int .i64 k ∧ Hid (Below w.heap.size w wr) ∧ Hid (xs.take k = ys.take k)) (fun _ i _ => M - (intOf i).toNat)
  case atStart => exact ⟨0, Nat.zero_le _, (by first | rfl | trivial), Below.refl _ _, (rfl : _ = _)⟩
  case round =>
    obtain ⟨k, hk, rfl, HB, HT⟩ := hrel
    have hkI0 : (0 : Int) ≤ (k : Int) := by omega
    by_cases hlt : k < M
    · have hkI : (k : Int) < (M : Int) := by omega
      have hkL : (k : Int) < (L : Int) := by have := HL.out; omega
      have HLX : Hid (k < xs.length) := by show k < _; rw [← HX.out]; exact hlt
      have HLY : Hid (k < ys.length) := by show k < _; rw [← HY.out, ← HL.out]; exact hlt
      obtain ⟨b1, o1, ua1, un1, uc1, rfl, l1, p0, i1⟩ := K1.out k HLX.out
      obtain ⟨b2, o2, ua2, un2, uc2, rfl, l2, q0, i2⟩ := K2.out k HLY.out
      have lx := HXX.out _ (List.getElem_mem HLX.out)
      have ly := HYY.out _ (List.getElem_mem HLY.out)
      obtain ⟨x, hx⟩ : ∃ x, x = xs[k]'HLX.out := ⟨_, rfl⟩
      obtain ⟨y, hy⟩ : ∃ y, y = ys[k]'HLY.out := ⟨_, rfl⟩
      rw [← hx] at i1 lx
      rw [← hy] at i2 ly
      have EX := hidIt hx
      have EY := hidIt hy
      clear hx hy
      have p1 := (Below.cell (p := ⟨b1, o1 + k, none⟩) HB.out l1).trans p0
      have q1 := (Below.cell (p := ⟨b2, o2 + k, none⟩) HB.out l2).trans q0
      have P1 := fun y => Ext.cell p1 y
      have Q1 := fun y => Ext.cell q1 y
      have HCA : Hid (∀ wx : World, Ext wr wx → Calls Tryd.prog 23 #[.slice ua1 un1 uc1, .slice ua2 un2 uc2] wx fun e w' => e = .returned (.bool (decide (x = y))) ∧ Below wx.heap.size wx w') := fun wx hC =>
        kInts_any _ _ x y wx ((i1.below HB.out).below hC) ((i2.below HB.out).below hC) (by omega) (by omega)
      clear p0 q0 p1 q1 i1 i2 l1 l2 lx ly
      by_cases he : x = y
      · rw [decide_eq_true he] at HCA
        have HE := hidIt he
        clear he
        go_wp2_with fail
        haveI := Ext.nonempty wr
        refine wp_region_in (Ext wr) (by kernel_rfl) (by kernel_rfl) (Ext.start wr) ?_
        repeat (go_big_quiet_step ((go_at_call 23; refine Ext.call (HCA.out _ (In.h _)))))
        refine wpQuiet_nil ?_
        rintro w5 ⟨⟨_, h5⟩, rfl⟩
        have HB5 := hidIt (HB.out.trans (Below.mono h5 HB.out.size))
        clear h5 P1 Q1
        go_wp2_with fail
        go_roundw
        case rel => exact ⟨k + 1, by omega, by go_num, HB5.out, take_step HT.out HLX.out HLY.out (by rw [← EX.out, ← EY.out]; exact HE.out)⟩
        case measure => simp [intOf]; omega
      · rw [decide_eq_false he] at HCA
        have HE := hidIt he
        clear he
        go_wp2_with fail
        haveI := Ext.nonempty wr
        refine wp_region_in (Ext wr) (by kernel_rfl) (by kernel_rfl) (Ext.start wr) ?_
        repeat (go_big_quiet_step ((go_at_call 23; refine Ext.call (HCA.out _ (In.h _)))))
        refine wpQuiet_nil ?_
        rintro w5 ⟨⟨_, h5⟩, rfl⟩
        have HB5 := hidIt (HB.out.trans (Below.mono h5 HB.out.size))
        clear h5 P1 Q1
        go_wp2_with fail
        go_ret
        exact ⟨ret_bool (by rw [decide_eq_false (take_neq (k := k) HLX.out HLY.out (by rw [← EX.out, ← EY.out]; exact HE.out))]), HB5.out⟩
    · have hkI : ¬ (k : Int) < (M : Int) := by omega
      have HEQ : Hid (xs = ys) := take_all HT.out (by rw [← HX.out]; omega) (by rw [← HY.out, ← HL.out]; omega)
      go_wp2_with fail
      go_ret
      exact ⟨ret_bool (by rw [decide_eq_true HEQ.out]), HB.out⟩

/-! The chapter's example. -/
end Go.Proofs.YtfiaoibfejginaaDoor
