/- The same as RefT, but behind Name alone (for the seats of stage 2). -/
import Derived.Test.YtpiiadmjddikfaaDoorName
namespace Go.Proofs.YtpiiadmjddikfaaDoor
set_option linter.unusedVariables false
set_option linter.unusedSimpArgs false
open Go.RowKit

theorem okUpto_first (s : ByteArray) (h : 0 < s.size) (hf : fitsB (s[0].toNat : Int) 0 = false) : okUpto s.data.toList s.size = false := by
  refine okUpto_false _ 1 _ (by omega) ?_
  show (okUpto s.data.toList 0 && fitsB ((s.data.toList.getD 0 0).toNat : Int) ((0 : Nat) : Int)) = false
  rw [getD_at s 0 h]
  simpa [okUpto] using hf

set_option maxHeartbeats 1000000 in
theorem rValidName_any (s : ByteArray) (w : World) (hs : s.size ≤ maxLen) :
    Calls Tryd.prog 57 #[.string s] w fun e w' => e = .returned (.bool (vn s)) ∧ w = w' := by
  unfold maxLen at hs
  by_cases h0 : s.size = 0
  · have HV : Hid (vn s = false) := by show vn s = _; simp [vn, h0]
    have h0' : (s.size : Int) < 1 := by omega
    go_enter Tryd.func57, Tryd.ntmps57
    go_wp2
    go_ret
    exact ⟨ret_bool HV.out.symm, rfl⟩
  by_cases h1 : 12 < s.size
  · have HV : Hid (vn s = false) := by show vn s = _; simp [vn]; omega
    have h1' : (12 : Int) < s.size := by omega
    go_enter Tryd.func57, Tryd.ntmps57
    go_wp2
    go_ret
    exact ⟨ret_bool HV.out.symm, rfl⟩
  have hpos : 0 < s.size := by omega
  have hle : s.size ≤ 12 := by omega
  have HV : Hid (vn s = okUpto s.data.toList s.size) := by show vn s = _; simp [vn, hpos, hle]
  have hb : (s[0].toNat : Int) ≤ 255 := by have := s[0].toNat_lt; omega
  by_cases ha : (s[0].toNat : Int) < 97
  · have HF : Hid (vn s = false) := by
      show vn s = _
      rw [HV.out]; exact okUpto_first s hpos (by simp [fitsB]; omega)
    go_enter Tryd.func57, Tryd.ntmps57
    go_wp2
    go_ret
    exact ⟨ret_bool HF.out.symm, rfl⟩
  by_cases hz : (122 : Int) < (s[0].toNat : Int)
  · have HF : Hid (vn s = false) := by
      show vn s = _
      rw [HV.out]; exact okUpto_first s hpos (by simp [fitsB]; omega)
    go_enter Tryd.func57, Tryd.ntmps57
    go_wp2
    go_ret
    exact ⟨ret_bool HF.out.symm, rfl⟩
  have H0 : Hid (97 ≤ (s[0].toNat : Int) ∧ (s[0].toNat : Int) ≤ 122) := ⟨by omega, by omega⟩
  go_enter Tryd.func57, Tryd.ntmps57
  go_wp2
  go_loop [3] (fun i => ∃ k : Nat, k ≤ s.size ∧ i = .int .i64 k ∧ Hid (okUpto s.data.toList k = true)) (fun i => s.size - (intOf i).toNat)
  case atStart => exact ⟨0, Nat.zero_le _, rfl, rfl⟩
  case round =>
    clear ha hz hb
    obtain ⟨k, hk, rfl, hok⟩ := hrel
    by_cases hlt : k < s.size
    · have hbk : (s[k].toNat : Int) ≤ 255 := by have := s[k].toNat_lt; omega
      have hk0 : Hid (k = 0 → 97 ≤ (s[k].toNat : Int) ∧ (s[k].toNat : Int) ≤ 122) := fun e => by subst e; exact H0.out
      have hstep : Hid (okUpto s.data.toList (k + 1) = fitsB (s[k].toNat : Int) (k : Int)) := by
        show _ = _
        rw [okUpto, hok.out, getD_at s k hlt, Bool.true_and]
      obtain ⟨c, hc⟩ : ∃ c : Int, (s[k].toNat : Int) = c := ⟨_, rfl⟩
      have HC := hidIt hc
      have good : Hid (fitsB c (k : Int) = true → okUpto s.data.toList (k + 1) = true) := fun h => by rw [hstep.out, HC.out]; exact h
      have bad : Hid (fitsB c (k : Int) = false → vn s = false) := fun h => by
        rw [HV.out]; exact okUpto_false _ (k + 1) _ (by omega) (by rw [hstep.out, HC.out]; exact h)
      rw [hc] at hbk hk0
      have hc0 : 0 ≤ c := by omega
      clear hc
      by_cases a1 : (s[k].toNat : Int) < 97
      · by_cases a2 : (s[k].toNat : Int) < 48
        · go_wp2
          go_ret
          exact ⟨ret_bool (bad.out (by have := HC.out; simp [fitsB]; omega)).symm, rfl⟩
        · by_cases a3 : (57 : Int) < (s[k].toNat : Int)
          · by_cases a4 : (s[k].toNat : Int) = 95
            · have a4' : ((s[k].toNat : Int) != 95) = false := by rw [a4]; rfl
              have A4 := hidIt a4
              clear a4
              go_wp2
              go_round
              case rel => exact ⟨k + 1, by omega, by go_num, good.out (by have := HC.out; have := A4.out; have := hk0.out; simp [fitsB]; omega)⟩
              case measure => simp [intOf]; omega
            · have a4' : ((s[k].toNat : Int) != 95) = true := by simp only [bne_iff_ne, ne_eq]; exact a4
              go_wp2
              go_ret
              exact ⟨ret_bool (bad.out (by have := HC.out; simp [fitsB]; omega)).symm, rfl⟩
          · go_wp2
            go_round
            case rel => exact ⟨k + 1, by omega, by go_num, good.out (by have := HC.out; have := hk0.out; simp [fitsB]; omega)⟩
            case measure => simp [intOf]; omega
      · by_cases a2 : (122 : Int) < (s[k].toNat : Int)
        · have a4' : ((s[k].toNat : Int) != 95) = true := by simp only [bne_iff_ne, ne_eq]; omega
          go_wp2
          go_ret
          exact ⟨ret_bool (bad.out (by have := HC.out; simp [fitsB]; omega)).symm, rfl⟩
        · go_wp2
          go_round
          case rel => exact ⟨k + 1, by omega, by go_num, good.out (by have := HC.out; simp [fitsB]; omega)⟩
          case measure => simp [intOf]; omega
    · go_wp2
      go_ret
      exact ⟨ret_bool (by rw [HV.out]; obtain rfl : k = s.size := by omega
                          exact hok.out.symm), rfl⟩
end Go.Proofs.YtpiiadmjddikfaaDoor
