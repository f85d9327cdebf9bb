/- The law SearchLimits: for every number it answers true. -/
import Derived.Test.YtfiaoibfejginaaDoorZ2O2B

namespace Go.Proofs.YtfiaoibfejginaaDoor
set_option linter.unusedVariables false
set_option linter.unusedSimpArgs false
open Go Go.RowKit Go.Sort

theorem three_pow (k : Nat) (h : k < 8) : IntKind.i64.wrap (3 * ((3 ^ k : Nat) : Int)) = ((3 ^ (k + 1) : Nat) : Int) := by
  have hall : ∀ k : Fin 8, IntKind.i64.wrap (3 * ((3 ^ k.val : Nat) : Int)) = ((3 ^ (k.val + 1) : Nat) : Int) := by decide +kernel
  exact hall ⟨k, h⟩
theorem two_pow (k : Nat) (h : k < 8) : IntKind.i64.wrap (2 * ((2 ^ k : Nat) : Int)) = ((2 ^ (k + 1) : Nat) : Int) := by
  have hall : ∀ k : Fin 8, IntKind.i64.wrap (2 * ((2 ^ k.val : Nat) : Int)) = ((2 ^ (k.val + 1) : Nat) : Int) := by decide +kernel
  exact hall ⟨k, h⟩

set_option maxRecDepth 100000 in
set_option maxHeartbeats 4000000 in
theorem limits_walk (x : Int) (w : World) (hx : -9223372036854775808 ≤ x ∧ x ≤ 9223372036854775807) (hT : Tab w) :
    Calls Tryd.prog 7 #[.int .i64 x] w fun e w' => e = .returned (.bool true) ∧ Below w.heap.size w w' := by
  have HT := hidIt hT
  clear hT
  go_enter Tryd.func7, Tryd.ntmps7
  obtain ⟨hb1, hb2⟩ := modI_bd x 8 (by omega)
  go_wp2_with fail
  refine (mod_any x 8 hx.1 hx.2 (by omega) (by omega) _).mono ?_
  rintro e w1 ⟨rfl, rfl⟩
  obtain ⟨r0, hr, hr8⟩ : ∃ r0 : Nat, modI x 8 = (r0 : Int) ∧ r0 < 8 := ⟨(modI x 8).toNat, by omega, by omega⟩
  rw [hr]
  clear hb1 hb2 hx hr
  go_upto_region 2 with (fail)
  rw [show (1 + (r0 : Int)) = ((r0 + 1 : Nat) : Int) by omega]
  obtain ⟨m, hm⟩ : ∃ m, m = r0 + 1 := ⟨_, rfl⟩
  rw [← hm]
  have hm1 : 1 ≤ m := by omega
  have hm8 : m ≤ 8 := by omega
  clear hm hr8
  go_wp2_with fail
  refine (sPairs_any m (by omega) _).mono ?_
  rintro e w2 ⟨v, rfl, hp, hb⟩
  have HPL := hidIt (pairsL_len m)
  have hgr := bgrow w2 (.cells #[.int .i64 (2 * (m : Int)), v] 24)
  have HX := hidIt (heap_alloc_new w2 (.cells #[.int .i64 (2 * (m : Int)), v] 24))
  have HP := hidIt (hp.go hgr).at_
  have HB := hidIt (hb.trans (Below.mono hgr hb.size))
  obtain ⟨a, c, rfl, -⟩ := hp.at_.pc
  clear hp hb hgr
  go_upto_region 3 with (fail)
  generalize (w2.alloc (.cells #[.int .i64 (2 * (m : Int)), .slice a (pairsL m).length c] 24)) = w3 at *
  generalize w2.heap.size = G at *
  obtain ⟨p3, h3⟩ : ∃ p : Nat → Int, ∀ k, p k = ((3 ^ k : Nat) : Int) := ⟨_, fun _ => rfl⟩
  obtain ⟨p2, h2⟩ : ∃ p : Nat → Int, ∀ k, p k = ((2 ^ k : Nat) : Int) := ⟨_, fun _ => rfl⟩
  have H3 := hidIt h3
  have H2 := hidIt h2
  clear h3 h2
  go_wp2_with fail
  go_loopw [4, 5, 6] (fun v4 v5 v6 wr => ∃ k : Nat, k ≤ m ∧ v4 = .int .i64 (p3 k) ∧ v5 = .int .i64 (p2 k) ∧ v6 = .int .i64 k ∧ wr = w3) (fun _ _ v6 _ => m - (intOf v6).toNat)
  case atStart => exact ⟨0, Nat.zero_le _, by rw [H3.out]; rfl, by rw [H2.out]; rfl, rfl, rfl⟩
  case round =>
    obtain ⟨k, hk, rfl, rfl, rfl, rfl⟩ := hrel
    have hk0 : (0 : Int) ≤ (k : Int) := by omega
    by_cases hlt : k < m
    · have hkI : (k : Int) < (m : Int) := by omega
      have e3 : IntKind.i64.wrap (3 * p3 k) = p3 (k + 1) := by rw [H3.out, H3.out]; exact three_pow k (by omega)
      have e2 : IntKind.i64.wrap (2 * p2 k) = p2 (k + 1) := by rw [H2.out, H2.out]; exact two_pow k (by omega)
      go_wp2_with fail
      go_roundw
      case rel => exact ⟨k + 1, by omega, by first | rfl | rw [e3], by first | rfl | rw [e2], by go_num, by first | rfl | trivial⟩
      case measure => simp [intOf]; omega
    · obtain rfl : k = m := by omega
      have hkI : ¬ (k : Int) < (k : Int) := by omega
      have HV3 := hidIt (H3.out k)
      have HV2 := hidIt (H2.out k)
      generalize p3 k = t3 at *
      generalize p2 k = t2 at *
      have hpl : (pairsL k).length ≤ 100000 := by rw [HPL.out]; omega
      have HPP := hidIt hpl
      have hN : ((2 * (k : Int))).toNat = 2 * k := by omega
      have HN := hidIt hN
      clear hpl hN
      obtain ⟨x0, x1⟩ := And.intro (cell_two0 HX.out) (cell_two1 HX.out)
      have lx := lt_of_block HX.out
      go_wp2_with fail
      refine (sComplete_any (2 * (k : Int)) _ (pairsL k) _ HP.out HPP.out (HT.out.go HB.out)).mono ?_
      rintro e w4 ⟨hb4, hr4⟩
      have HX4 := hidIt (blk_kept2 HX.out hb4)
      have HP4 := hidIt (HP.out.below hb4)
      have HB4 := hidIt (HB.out.trans (Below.mono hb4 HB.out.size))
      clear x0 x1 lx HX HP HB hb4
      obtain ⟨a4, l4, c4, e4, rfl, HC4⟩ : ∃ (a4 : Option Addr) (l4 c4 : Nat) (e4 : Int), e = .returned (.tuple #[.slice a4 l4 c4, .int .i64 e4]) ∧ Hid ((e4 = 2 ∧ l4 = 0 ∧ 200 < t3) ∨ (e4 = 0 ∧ (l4 : Int) = t3 ∧ ¬ 200 < t3)) := by
        rcases hr4 with ⟨h0, -⟩ | ⟨-, ⟨va, ls, he, hcl, hll, hsr⟩ | ⟨he, hm⟩⟩
        · exact absurd (pairs_val (by omega)) h0
        · obtain ⟨aa, ca, rfl, -⟩ := hsr.ll.form
          rw [HN.out] at hcl
          have := cl_pairs (by omega) hcl
          refine ⟨aa, _, ca, 0, he, .inr ⟨rfl, ?_, ?_⟩⟩
          · rw [HV3.out, this]
          · rw [HV3.out]; omega
        · rw [HN.out] at hm
          have := clm_pairs (by omega) hm
          refine ⟨none, 0, 0, 2, he, .inl ⟨rfl, rfl, ?_⟩⟩
          rw [HV3.out]; omega
      clear hr4
      obtain ⟨x0, x1⟩ := And.intro (cell_two0 HX4.out) (cell_two1 HX4.out)
      have lx := lt_of_block HX4.out
      go_wp2_with fail
      refine (sNaive_any (2 * (k : Int)) _ (pairsL k) _ HP4.out HPP.out (HT.out.go HB4.out)).mono ?_
      rintro e w5 ⟨hb5, hr5⟩
      have HB5 := hidIt (HB4.out.trans (Below.mono hb5 HB4.out.size))
      clear x0 x1 lx HX4 HP4 HB4 hb5
      obtain ⟨a5, l5, c5, e5, rfl, HC5⟩ : ∃ (a5 : Option Addr) (l5 c5 : Nat) (e5 : Int), e = .returned (.tuple #[.slice a5 l5 c5, .int .i64 e5]) ∧ Hid ((e5 = 2 ∧ l5 = 0 ∧ 200 < t2) ∨ (e5 = 0 ∧ (l5 : Int) = t2 ∧ ¬ 200 < t2)) := by
        rcases hr5 with ⟨h0, -⟩ | ⟨-, ⟨va, ls, he, hcl, hll, hsr⟩ | ⟨he, hm⟩⟩
        · exact absurd (pairs_val (by omega)) h0
        · obtain ⟨aa, ca, rfl, -⟩ := hsr.ll.form
          rw [HN.out] at hcl
          have := nl_pairs (by omega) hcl
          refine ⟨aa, _, ca, 0, he, .inr ⟨rfl, ?_, ?_⟩⟩
          · rw [HV2.out, this]
          · rw [HV2.out]; omega
        · rw [HN.out] at hm
          have := nlm_pairs (by omega) hm
          refine ⟨none, 0, 0, 2, he, .inl ⟨rfl, rfl, ?_⟩⟩
          rw [HV2.out]; omega
      clear hr5
      have HTW := hidIt (HT.out.go HB5.out)
      rcases HC4.out with ⟨rfl, rfl, h4⟩ | ⟨rfl, h4e, h4⟩ <;> rcases HC5.out with ⟨rfl, rfl, h5⟩ | ⟨rfl, h5e, h5⟩
      · go_wp2_with fail
        refine (awake14_any _ HTW.out).mono ?_
        rintro e w6 ⟨rfl, hb6⟩
        go_wp2_with fail
        go_ret
        exact ⟨rfl, HB5.out.trans (Below.mono hb6 HB5.out.size)⟩
      · have hq5 : ((l5 : Int) == t2) = true := by simp [h5e]
        clear h5e
        go_wp2_with fail
        refine (awake14_any _ HTW.out).mono ?_
        rintro e w6 ⟨rfl, hb6⟩
        go_wp2_with fail
        go_ret
        exact ⟨rfl, HB5.out.trans (Below.mono hb6 HB5.out.size)⟩
      · have hq4 : ((l4 : Int) == t3) = true := by simp [h4e]
        clear h4e
        go_wp2_with fail
        refine (awake14_any _ HTW.out).mono ?_
        rintro e w6 ⟨rfl, hb6⟩
        go_wp2_with fail
        go_ret
        exact ⟨rfl, HB5.out.trans (Below.mono hb6 HB5.out.size)⟩
      · have hq4 : ((l4 : Int) == t3) = true := by simp [h4e]
        have hq5 : ((l5 : Int) == t2) = true := by simp [h5e]
        clear h4e h5e
        go_wp2_with fail
        refine (awake14_any _ HTW.out).mono ?_
        rintro e w6 ⟨rfl, hb6⟩
        go_wp2_with fail
        go_ret
        exact ⟨rfl, HB5.out.trans (Below.mono hb6 HB5.out.size)⟩
end Go.Proofs.YtfiaoibfejginaaDoor
