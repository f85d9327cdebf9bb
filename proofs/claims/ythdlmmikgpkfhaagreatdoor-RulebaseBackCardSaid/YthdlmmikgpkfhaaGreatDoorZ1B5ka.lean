/- The kind of a word. -/
import Derived.Test.YthdlmmikgpkfhaaGreatDoorZ1B5env
import Derived.Test.YthdlmmikgpkfhaaGreatDoorZ1B5s0

namespace Go.Proofs.YthdlmmikgpkfhaaGreatDoor
set_option linter.unusedVariables false
set_option linter.unusedSimpArgs false
open Go Go.RowKit

set_option maxRecDepth 100000 in
set_option maxHeartbeats 1000000 in
theorem kindOf_any (s : ByteArray) (w : World) (hw : WordsAt w) :
    Calls Tryz.prog 139 #[.string s] w fun e w' => e = .returned (.int .i64 (kindT s)) ∧ w = w' := by
  obtain ⟨hlt, c0, c1, c2, c3⟩ := hw
  have HK : Hid (kindT s = if ([97, 120, 105, 111, 109] == s.toList) = true then 1 else if ([112, 114, 101, 109, 105, 115, 101] == s.toList) = true then 2 else if ([97, 115, 115, 117, 109, 101] == s.toList) = true then 3 else 0) := by show _ = _; rfl
  generalize kindT s = K at *
  have ix : ∀ (k : Nat) (u : Value), k < 4 → (#[.string ⟨#[]⟩, .string ⟨#[97, 120, 105, 111, 109]⟩, .string ⟨#[112, 114, 101, 109, 105, 115, 101]⟩, .string ⟨#[97, 115, 115, 117, 109, 101]⟩] : Array Value)[k]? = some u → (Instr.index 168 (.agg #[.string ⟨#[]⟩, .string ⟨#[97, 120, 105, 111, 109]⟩, .string ⟨#[112, 114, 101, 109, 105, 115, 101]⟩, .string ⟨#[97, 115, 115, 117, 109, 101]⟩]) (.int .i64 (k : Int))).run Tryz.prog w = .ok u w := fun k u hk hu => by
    rcases (by omega : k = 0 ∨ k = 1 ∨ k = 2 ∨ k = 3) with rfl | rfl | rfl | rfl
    all_goals
      simp at hu
      subst hu
      kernel_rfl
  go_enter Tryz.func139, Tryz.ntmps139
  go_wp2_with fail
  go_loop [6] (fun i => ∃ k : Nat, k ≤ 4 ∧ i = .int .i64 k ∧ Hid (1 < k → ([97, 120, 105, 111, 109] == s.toList) = false) ∧ Hid (2 < k → ([112, 114, 101, 109, 105, 115, 101] == s.toList) = false) ∧ Hid (3 < k → ([97, 115, 115, 117, 109, 101] == s.toList) = false)) (fun i => 4 - (intOf i).toNat)
  case atStart => exact ⟨0, Nat.zero_le _, rfl, fun h => absurd h (by omega), fun h => absurd h (by omega), fun h => absurd h (by omega)⟩
  case round =>
    obtain ⟨k, hk, rfl, H1, H2, H3⟩ := hrel
    rcases (by omega : k = 0 ∨ k = 1 ∨ k = 2 ∨ k = 3 ∨ k = 4) with rfl | rfl | rfl | rfl | rfl
    · have x0 : (Instr.index 168 (.agg #[.string ⟨#[]⟩, .string ⟨#[97, 120, 105, 111, 109]⟩, .string ⟨#[112, 114, 101, 109, 105, 115, 101]⟩, .string ⟨#[97, 115, 115, 117, 109, 101]⟩]) (.int .i64 0)).run Tryz.prog w = .ok (.string ⟨#[]⟩) w := ix 0 _ (by decide) rfl
      cases hb : (([] : List UInt8) == s.toList)
      · go_wp2_with fail
        go_round
        case rel => exact ⟨1, by omega, by go_num, fun h => absurd h (by omega), fun h => absurd h (by omega), fun h => absurd h (by omega)⟩
        case measure => simp [intOf]
      · go_wp2_with fail
        go_ret
        refine ⟨ret_int ?_, rfl⟩
        rw [HK.out]
        have hs : s.toList = [] := by have := hb; rw [beq_iff_eq] at this; rw [← this]
        rw [hs]
        decide +kernel
    · have x1 : (Instr.index 168 (.agg #[.string ⟨#[]⟩, .string ⟨#[97, 120, 105, 111, 109]⟩, .string ⟨#[112, 114, 101, 109, 105, 115, 101]⟩, .string ⟨#[97, 115, 115, 117, 109, 101]⟩]) (.int .i64 1)).run Tryz.prog w = .ok (.string ⟨#[97, 120, 105, 111, 109]⟩) w := ix 1 _ (by decide) rfl
      cases hb : ([97, 120, 105, 111, 109] == s.toList)
      · go_wp2_with fail
        go_round
        case rel => exact ⟨2, by omega, by go_num, by first | exact fun _ => hb | (intro _; trivial) | trivial, fun h => absurd h (by omega), fun h => absurd h (by omega)⟩
        case measure => simp [intOf]
      · go_wp2_with fail
        go_ret
        refine ⟨ret_int ?_, rfl⟩
        rw [HK.out, if_pos hb]
    · have x2 : (Instr.index 168 (.agg #[.string ⟨#[]⟩, .string ⟨#[97, 120, 105, 111, 109]⟩, .string ⟨#[112, 114, 101, 109, 105, 115, 101]⟩, .string ⟨#[97, 115, 115, 117, 109, 101]⟩]) (.int .i64 2)).run Tryz.prog w = .ok (.string ⟨#[112, 114, 101, 109, 105, 115, 101]⟩) w := ix 2 _ (by decide) rfl
      cases hb : ([112, 114, 101, 109, 105, 115, 101] == s.toList)
      · go_wp2_with fail
        go_round
        case rel => exact ⟨3, by omega, by go_num, fun _ => H1.out (by omega), by first | exact fun _ => hb | (intro _; trivial) | trivial, fun h => absurd h (by omega)⟩
        case measure => simp [intOf]
      · go_wp2_with fail
        go_ret
        refine ⟨ret_int ?_, rfl⟩
        rw [HK.out, if_neg (by rw [H1.out (by omega)]; decide), if_pos hb]
    · have x3 : (Instr.index 168 (.agg #[.string ⟨#[]⟩, .string ⟨#[97, 120, 105, 111, 109]⟩, .string ⟨#[112, 114, 101, 109, 105, 115, 101]⟩, .string ⟨#[97, 115, 115, 117, 109, 101]⟩]) (.int .i64 3)).run Tryz.prog w = .ok (.string ⟨#[97, 115, 115, 117, 109, 101]⟩) w := ix 3 _ (by decide) rfl
      cases hb : ([97, 115, 115, 117, 109, 101] == s.toList)
      · go_wp2_with fail
        go_round
        case rel => exact ⟨4, by omega, by go_num, fun _ => H1.out (by omega), fun _ => H2.out (by omega), by first | exact fun _ => hb | (intro _; trivial) | trivial⟩
        case measure => simp [intOf]
      · go_wp2_with fail
        go_ret
        refine ⟨ret_int ?_, rfl⟩
        rw [HK.out, if_neg (by rw [H1.out (by omega)]; decide), if_neg (by rw [H2.out (by omega)]; decide), if_pos hb]
    · go_wp2_with fail
      go_ret
      refine ⟨ret_int ?_, rfl⟩
      rw [HK.out, if_neg (by rw [H1.out (by omega)]; decide), if_neg (by rw [H2.out (by omega)]; decide), if_neg (by rw [H3.out (by omega)]; decide)]
end Go.Proofs.YthdlmmikgpkfhaaGreatDoor
