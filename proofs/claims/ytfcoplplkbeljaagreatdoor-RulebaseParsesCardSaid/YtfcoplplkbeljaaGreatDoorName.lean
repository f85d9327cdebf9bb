/- What the calls that tell names apart do, for every string: they answer the plain Bool 'vn' of the string and leave the memory as it was. -/
import Derived.Test.YtfcoplplkbeljaaGreatDoorRows
import Derived.WalkKit
import Derived.WalkSpells
import Derived.WalkLawsBesides
namespace Go.Proofs.YtfcoplplkbeljaaGreatDoor
set_option linter.unusedVariables false
set_option linter.unusedSimpArgs false
open Go.RowKit

/-- A fact kept from the walk. -/
theorem hidIt {p : Prop} (h : p) : Hid p := h

theorem ret_bool {a b : Bool} (h : a = b) : Ending.returned (.bool a) = .returned (.bool b) := by rw [h]

def fitsB (c i : Int) : Bool := decide (97 ≤ c ∧ c ≤ 122) || ((decide (48 ≤ c ∧ c ≤ 57) || decide (c = 95)) && decide (0 < i))

set_option maxHeartbeats 400000 in
theorem fits_any (c i : Int) (hc : 0 ≤ c) (hc' : c ≤ 255) (w : World) :
    Calls Tryz.prog 179 #[.int .u8 c, .int .i64 i] w fun e w' => e = .returned (.bool (fitsB c i)) ∧ w = w' := by
  go_enter Tryz.func179, Tryz.ntmps179
  go_wp2
  all_goals (go_ret; refine ⟨ret_bool ?_, rfl⟩; grind [fitsB])

/-- The first k bytes of a text may stand where they stand in a name. -/
def okUpto (l : List UInt8) : Nat → Bool
  | 0 => true
  | k + 1 => okUpto l k && fitsB ((l.getD k 0).toNat : Int) (k : Int)

/-- Is the text a name? -/
def vn (s : ByteArray) : Bool := decide (0 < s.size ∧ s.size ≤ 12) && okUpto s.data.toList s.size

theorem okUpto_false (l : List UInt8) (k n : Nat) (h : k ≤ n) (hk : okUpto l k = false) : okUpto l n = false := by
  induction n with
  | zero => obtain rfl : k = 0 := by omega
            exact hk
  | succ n ih =>
    by_cases e : k = n + 1
    · rw [← e]; exact hk
    · simp [okUpto, ih (by omega)]

theorem getD_at (s : ByteArray) (k : Nat) (h : k < s.size) : s.data.toList.getD k 0 = s[k] := by
  have h' : k < s.data.size := h
  have h2 : k < s.data.toList.length := by simpa using h'
  rw [List.getD_eq_getElem?_getD, List.getElem?_eq_getElem h2]
  rfl


set_option maxHeartbeats 400000 in
theorem validName_any (s : ByteArray) (w : World) (hs : s.size ≤ maxLen) :
    Calls Tryz.prog 145 #[.string s] w fun e w' => e = .returned (.bool (vn s)) ∧ w = w' := by
  unfold maxLen at hs
  by_cases h0 : s.size = 0
  · have hv : vn s = false := by simp [vn, h0]
    have hz : ((s.size : Int) == 0) = true := by simp [h0]
    have HV := hidIt hv
    clear hv h0
    go_enter Tryz.func145, Tryz.ntmps145
    go_wp2
    go_ret
    exact ⟨ret_bool HV.out.symm, rfl⟩
  by_cases h1 : 12 < s.size
  · have hv : vn s = false := by simp [vn]; omega
    have HV := hidIt hv
    clear hv
    go_enter Tryz.func145, Tryz.ntmps145
    go_wp2
    go_ret
    exact ⟨ret_bool HV.out.symm, rfl⟩
  have hpos : 0 < s.size := by omega
  have hle : s.size ≤ 12 := by omega
  have hz : ((s.size : Int) == 0) = false := by rw [beq_eq_false_iff_ne]; omega
  have hle' : (s.size : Int) ≤ 12 := by omega
  have HV : Hid (vn s = okUpto s.data.toList s.size) := by show vn s = _; simp [vn, hpos, hle]
  go_enter Tryz.func145, Tryz.ntmps145
  go_wp2
  go_loop [14] (fun i => ∃ k : Nat, k ≤ s.size ∧ i = .int .i64 k ∧ Hid (okUpto s.data.toList k = true)) (fun i => s.size - (intOf i).toNat)
  case atStart => exact ⟨0, Nat.zero_le _, rfl, rfl⟩
  case round =>
    obtain ⟨k, hk, rfl, hok⟩ := hrel
    by_cases hlt : k < s.size
    · have hb : 0 ≤ (s[k].toNat : Int) := by omega
      have hb' : (s[k].toNat : Int) ≤ 255 := by have := s[k].toNat_lt; omega
      have hstep : Hid (okUpto s.data.toList (k + 1) = fitsB (s[k].toNat : Int) (k : Int)) := by
        show _ = _
        rw [okUpto, hok.out, getD_at s k hlt, Bool.true_and]
      cases hf : fitsB (s[k].toNat : Int) (k : Int)
      · have HF := hidIt hf
        have HE : Hid (vn s = false) := by
          show _ = _
          rw [HV.out]; exact okUpto_false _ (k + 1) _ (by omega) (by rw [hstep.out, HF.out])
        go_wp2_with (go_at_call 179; refine (fits_any _ _ hb hb' _).mono ?_; rintro e w' ⟨rfl, rfl⟩)
        go_ret
        exact ⟨ret_bool HE.out.symm, rfl⟩
      · have HF := hidIt hf
        go_wp2_with (go_at_call 179; refine (fits_any _ _ hb hb' _).mono ?_; rintro e w' ⟨rfl, rfl⟩)
        go_round
        case rel => exact ⟨k + 1, by omega, by go_num, by show _ = _; rw [hstep.out, HF.out]⟩
        case measure => simp [intOf]; omega
    · go_wp2
      go_ret
      exact ⟨ret_bool (by rw [HV.out]; obtain rfl : k = s.size := by omega
                          exact hok.out.symm), rfl⟩
end Go.Proofs.YtfcoplplkbeljaaGreatDoor
