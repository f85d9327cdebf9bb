/- The text of a literal is read: what Parse answers, for every string. -/
import Derived.Test.YtfcoplplkbeljaaGreatDoorText
import Derived.Lib.Strings
namespace Go.Proofs.YtfcoplplkbeljaaGreatDoor
set_option linter.unusedVariables false
set_option linter.unusedSimpArgs false
open Go.RowKit

/-- Does the text begin with a tilde? -/
def cutB (s : ByteArray) : Bool := (s.extract 0 1).toList == [126]

theorem cutB_eq (s : ByteArray) : cutB s = (s.data.toList.take 1 == [126]) := by
  unfold cutB
  rw [Lib.extract_toList]
  rfl

theorem cutB_empty (s : ByteArray) (h : s.size = 0) : cutB s = false := by
  have : s.data.toList = [] := List.eq_nil_of_length_eq_zero (by rw [← Lib.size_eq]; exact h)
  rw [cutB_eq, this]
  rfl

set_option maxHeartbeats 400000 in
theorem hasPrefix_any (s : ByteArray) (w : World) (hs : s.size ≤ maxLen) :
    Calls Tryz.prog 228 #[.string s, .string ⟨#[126]⟩] w fun e w' => e = .returned (.bool (cutB s)) ∧ w = w' := by
  unfold maxLen at hs
  by_cases hp : 0 < s.size
  · go_enter Tryz.func228, Tryz.ntmps228
    go_wp2
    go_ret
    exact ⟨rfl, rfl⟩
  · have HE := hidIt (cutB_empty s (by omega))
    go_enter Tryz.func228, Tryz.ntmps228
    go_wp2
    go_ret
    exact ⟨ret_bool HE.out.symm, rfl⟩

set_option maxHeartbeats 400000 in
theorem slCut_no (s : ByteArray) (w : World) (hs : s.size ≤ maxLen) (h : cutB s = false) :
    Calls Tryz.prog 218 #[.string s, .string ⟨#[126]⟩] w fun e w' => e = .returned (.tuple #[.string s, .bool false]) ∧ w = w' := by
  go_enter Tryz.func218, Tryz.ntmps218
  go_wp2_with (go_at_call 228; refine (hasPrefix_any s _ hs).mono ?_; rintro e w' ⟨rfl, rfl⟩)
  go_ret2
  exact ⟨rfl, rfl⟩

theorem cutB_pos (s : ByteArray) (h : cutB s = true) : 0 < s.size := by
  by_cases hp : 0 < s.size
  · exact hp
  · rw [cutB_empty s (by omega)] at h; cases h

set_option maxHeartbeats 400000 in
theorem slCut_yes (s : ByteArray) (w : World) (hs : s.size ≤ maxLen) (h : cutB s = true) :
    Calls Tryz.prog 218 #[.string s, .string ⟨#[126]⟩] w fun e w' => e = .returned (.tuple #[.string (s.extract 1 s.size), .bool true]) ∧ w = w' := by
  have hp := cutB_pos s h
  go_enter Tryz.func218, Tryz.ntmps218
  go_wp2_with (go_at_call 228; refine (hasPrefix_any s _ hs).mono ?_; rintro e w' ⟨rfl, rfl⟩)
  go_ret2
  exact ⟨rfl, rfl⟩

set_option maxHeartbeats 400000 in
theorem cut_no (s : ByteArray) (w : World) (hs : s.size ≤ maxLen) (h : cutB s = false) :
    Calls Tryz.prog 203 #[.string s, .string ⟨#[126]⟩] w fun e w' => e = .returned (.tuple #[.string s, .bool false]) ∧ w = w' := by
  go_enter Tryz.func203, Tryz.ntmps203
  go_wp2_with (go_at_call 218; refine (slCut_no s _ hs h).mono ?_; rintro e w' ⟨rfl, rfl⟩)
  go_ret2
  exact ⟨rfl, rfl⟩

set_option maxHeartbeats 400000 in
theorem cut_yes (s : ByteArray) (w : World) (hs : s.size ≤ maxLen) (h : cutB s = true) :
    Calls Tryz.prog 203 #[.string s, .string ⟨#[126]⟩] w fun e w' => e = .returned (.tuple #[.string (s.extract 1 s.size), .bool true]) ∧ w = w' := by
  go_enter Tryz.func203, Tryz.ntmps203
  go_wp2_with (go_at_call 218; refine (slCut_yes s _ hs h).mono ?_; rintro e w' ⟨rfl, rfl⟩)
  go_ret2
  exact ⟨rfl, rfl⟩

/-- What stands behind the tilde, if there is one. -/
def bare (s : ByteArray) : ByteArray := if cutB s then s.extract 1 s.size else s

theorem bare_le (s : ByteArray) : (bare s).size ≤ s.size := by
  unfold bare
  split
  · rw [ByteArray.size_extract]; omega
  · exact Nat.le_refl _

set_option maxHeartbeats 400000 in
theorem parse_bad (s : ByteArray) (w : World) (hs : s.size ≤ maxLen) (h : vn (bare s) = false) :
    Calls Tryz.prog 174 #[.string s] w fun e w' => e = .returned (.tuple #[.agg #[.bool false, .string ⟨#[]⟩], .int .i64 3]) ∧ Below w.heap.size w w' := by
  have hb := bare_le s
  cases hc : cutB s
  · have hbs : bare s = s := by simp [bare, hc]
    rw [hbs] at h
    clear hbs hb
    go_enter Tryz.func174, Tryz.ntmps174
    go_wp2_with (first | (go_at_call 203; refine (cut_no s _ hs hc).mono ?_; rintro e w' ⟨rfl, rfl⟩) | (go_at_call 145; refine (validName_any s _ hs).mono ?_; rintro e w' ⟨rfl, rfl⟩))
    exact bodyPost_ret (v := .tuple #[.agg #[.bool false, .string ⟨#[]⟩], .int .i64 3]) (by simp [results, Tryz.results174, go_sem]) rfl ⟨rfl, by first | exact (Below.refl _ _).alloc (Nat.le_refl _) _ | exact ((Below.refl _ _).alloc (Nat.le_refl _) _).setCell (Nat.le_refl _) _⟩
  · have hbs : bare s = s.extract 1 s.size := by simp [bare, hc]
    rw [hbs] at h hb
    have hs' : (s.extract 1 s.size).size ≤ maxLen := Nat.le_trans hb hs
    clear hbs hb
    go_enter Tryz.func174, Tryz.ntmps174
    go_wp2_with (first | (go_at_call 203; refine (cut_yes s _ hs hc).mono ?_; rintro e w' ⟨rfl, rfl⟩) | (go_at_call 145; refine (validName_any _ _ hs').mono ?_; rintro e w' ⟨rfl, rfl⟩))
    exact bodyPost_ret (v := .tuple #[.agg #[.bool false, .string ⟨#[]⟩], .int .i64 3]) (by simp [results, Tryz.results174, go_sem]) rfl ⟨rfl, (Below.refl _ _).alloc (Nat.le_refl _) _⟩

set_option maxHeartbeats 400000 in
theorem parse_good (s : ByteArray) (w : World) (hs : s.size ≤ maxLen) (h : vn (bare s) = true) :
    Calls Tryz.prog 174 #[.string s] w fun e w' => e = .returned (.tuple #[.agg #[.bool (cutB s), .string (bare s)], .int .i64 0]) ∧ Below w.heap.size w w' := by
  have hb := bare_le s
  cases hc : cutB s
  · have hbs : bare s = s := by simp [bare, hc]
    rw [hbs] at h ⊢
    clear hbs hb
    go_enter Tryz.func174, Tryz.ntmps174
    go_wp2_with (first | (go_at_call 203; refine (cut_no s _ hs hc).mono ?_; rintro e w' ⟨rfl, rfl⟩) | (go_at_call 145; refine (validName_any s _ hs).mono ?_; rintro e w' ⟨rfl, rfl⟩))
    exact bodyPost_ret (v := .tuple #[.agg #[.bool false, .string s], .int .i64 0]) (by simp [results, Tryz.results174, go_sem]) rfl ⟨rfl, (Below.refl _ _).alloc (Nat.le_refl _) _⟩
  · have hbs : bare s = s.extract 1 s.size := by simp [bare, hc]
    rw [hbs] at h hb ⊢
    have hs' : (s.extract 1 s.size).size ≤ maxLen := Nat.le_trans hb hs
    clear hbs hb
    go_enter Tryz.func174, Tryz.ntmps174
    go_wp2_with (first | (go_at_call 203; refine (cut_yes s _ hs hc).mono ?_; rintro e w' ⟨rfl, rfl⟩) | (go_at_call 145; refine (validName_any _ _ hs').mono ?_; rintro e w' ⟨rfl, rfl⟩))
    exact bodyPost_ret (v := .tuple #[.agg #[.bool true, .string (s.extract 1 s.size)], .int .i64 0]) (by simp [results, Tryz.results174, go_sem]) rfl ⟨rfl, (Below.refl _ _).alloc (Nat.le_refl _) _⟩

/-- What is read from a text: the literal and the error's number. -/
def parsedNeg (s : ByteArray) : Bool := vn (bare s) && cutB s
def parsedName (s : ByteArray) : ByteArray := if vn (bare s) then bare s else ⟨#[]⟩
def parsedErr (s : ByteArray) : Int := if vn (bare s) then 0 else 3

theorem parse_any (s : ByteArray) (w : World) (hs : s.size ≤ maxLen) :
    Calls Tryz.prog 174 #[.string s] w fun e w' => e = .returned (.tuple #[.agg #[.bool (parsedNeg s), .string (parsedName s)], .int .i64 (parsedErr s)]) ∧ Below w.heap.size w w' := by
  cases h : vn (bare s)
  · rw [parsedNeg, parsedName, parsedErr, h]
    exact parse_bad s w hs h
  · rw [parsedNeg, parsedName, parsedErr, h]
    exact parse_good s w hs h
end Go.Proofs.YtfcoplplkbeljaaGreatDoor
