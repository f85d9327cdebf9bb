/- The law LiteralBack: the call answers true for every text and every list of numbers. -/
import Derived.Test.YtbldlngblmegfaaBack
namespace Go.Proofs.Ytbldlngblmegfaa
open Go.RowKit Go.Sort

theorem below_only {B b : Nat} {w0 w w' : World} (h : Below B w0 w) (hg : w.grownBy w' (some b)) (hb : B ≤ b) (hlt : b < w.heap.size) : Below B w0 w' := h.grown hg (by omega) (fun k e => by injection e with e; omega)

set_option maxRecDepth 100000 in
set_option maxHeartbeats 1000000 in
theorem back_walk (t : ByteArray) (l : Value) (zs : List Int) (w : World) (ht : t.size ≤ maxLen) (hl : IntsAt w w.heap.size l zs) :
    Calls Try.prog 6 #[.string t, l] w fun e w' => e = .returned (.bool true) ∧ Below w.heap.size w w' := by
  have HL := hidIt hl
  clear hl
  go_enter Try.func6, Try.ntmps6
  go_wp2_with fail
  refine (new_any l zs w.heap.size _ HL.out (Nat.le_refl _)).mono ?_
  rintro e w1 ⟨zs', rfl, hs, o, hw1⟩
  have HS := hidIt hs
  have HB : Hid (Below w.heap.size w w1) := by rw [hw1]; exact (Below.refl _ _).alloc (Nat.le_refl _) o
  clear hs hw1 HL
  go_wp2_with fail
  go_loopw [6] (fun i wr => ∃ k q : Nat, k ≤ 4 ∧ i = .int .i64 k ∧ Hid (SrcAt wr w.heap.size w.heap.size zs' q) ∧ Hid (Below w.heap.size w wr)) (fun i _ => 4 - (intOf i).toNat)
  case atStart => exact ⟨0, 0, by omega, rfl, HS, HB⟩
  case round =>
    clear HS HB
    obtain ⟨k, q, hk, rfl, HS, HB⟩ := hrel
    by_cases hlt : k < 4
    · go_wp2_with fail
      refine (slit_any 26 (by omega) (by omega) w.heap.size w.heap.size zs' q wr HS.out).mono ?_
      rintro e w2 ⟨g, m, k', rfl, hm, hs2, hg2⟩
      have HS2 := hidIt hs2
      have HB2 := hidIt (below_only HB.out hg2 (Nat.le_refl _) HS.out.lt)
      clear hs2 hg2 HS HB
      go_wp2_with fail
      refine (format_letter g m (by omega) _).mono ?_
      rintro e w3 ⟨rfl, hb3⟩
      have hb3' := hb3
      have K := hidIt (laid_two (w := w2) (only_of_below hb3 none) (by simp))
      have HB3 := hidIt (below_of_alloc hb3)
      clear hb3 hb3'
      go_wp2_with fail
      refine (parse_letter g m (by omega) _).mono ?_
      rintro e w4 ⟨rfl, hb4⟩
      have K4 := block_kept K.out hb4
      have HB4 := hidIt (HB3.out.trans (hb4.mono HB3.out.size))
      have c0 := cell_two0 K4
      have c1 := cell_two1 K4
      have hz : w2.heap.size < w4.heap.size := lt_of_block K4
      clear hb4 K4 K HB3
      have hq : ∀ w, (Op.equalIn 10000 23 (.agg #[.bool g, .string (letter m)]) (.agg #[.bool g, .string (letter m)])).run Try.prog w = .ok true w := fun w => by rw [eqFieldsL]; simp
      have hgd := fun (op : BinOp) (a b : Operand) (w : World) => gdL op a b g g (letter m) (letter m) w
      go_wp2
      go_roundw
      case rel => exact ⟨k + 1, k', by omega, by go_num, (HS2.out.grow (only_of_below HB4.out none)).alloc _, ((HB2.out.trans (HB4.out.mono HB2.out.size)).alloc (Nat.le_trans HB2.out.size HB4.out.size) _)⟩
      case measure => simp [intOf]; omega
    · clear HS
      cases h : vn (bare t)
      · go_wp2_with fail
        refine (parse_bad t _ ht h).mono ?_
        rintro e w2 ⟨rfl, hb2⟩
        have HB2 := hidIt (HB.out.trans (hb2.mono HB.out.size))
        clear hb2 HB
        go_wp2_with fail
        refine (awake_any _).mono ?_
        rintro e w3 ⟨rfl, hb3⟩
        have HB3 := hidIt (HB2.out.trans ((below_of_alloc hb3).mono HB2.out.size))
        clear hb3 HB2
        go_wp2
        go_ret
        exact ⟨rfl, HB3.out⟩
      · go_wp2_with fail
        refine (parse_good t _ ht h).mono ?_
        rintro e w2 ⟨rfl, hb2⟩
        have HB2 := hidIt (HB.out.trans (hb2.mono HB.out.size))
        clear hb2 HB
        go_wp2_with fail
        refine (format_text t h ht _).mono ?_
        rintro e w3 ⟨rfl, hb3⟩
        have HB3 := hidIt (HB2.out.trans ((below_of_alloc hb3).mono HB2.out.size))
        clear hb3 HB2
        go_wp2_with fail
        refine (awake_any _).mono ?_
        rintro e w4 ⟨rfl, hb4⟩
        have HB4 := hidIt (HB3.out.trans (hb4.mono HB3.out.size))
        clear hb4 HB3
        go_wp2
        go_ret
        exact ⟨rfl, HB4.out⟩
end Go.Proofs.Ytbldlngblmegfaa
