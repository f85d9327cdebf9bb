/- The order of literals: what Compare and Complement answer, for every two literals. -/
import Derived.Test.YtfcoplplkbeljaaGreatDoorParse
import Derived.Test.YtfcoplplkbeljaaGreatDoorShelf
import Derived.Sort.Grow
namespace Go.Proofs.YtfcoplplkbeljaaGreatDoor
set_option linter.unusedVariables false
set_option linter.unusedSimpArgs false
open Go.RowKit

/-- Less than, equal, greater: names bytewise, then the one that is not negated first. -/
def cmpI (x y : Lt) : Int :=
  if x.name.toList == y.name.toList then (if x.neg == y.neg then 0 else if y.neg then -1 else 1) else Lib.compareBytes x.name.data.toList y.name.data.toList

theorem grow_two (w : World) (o1 o2 : Obj) : (w.alloc o1).alloc o2 = Sort.grow w #[o1, o2] := by
  rw [Sort.alloc_eq_grow, Sort.alloc_eq_grow, Sort.grow_grow]
  rfl

theorem below_grow (w : World) (os : Array Obj) : Below w.heap.size w (Sort.grow w os) :=
  ⟨rfl, rfl, rfl, by simp [Sort.grow], fun k hk => by simp [Sort.grow, Array.getElem?_append, hk]⟩

set_option maxHeartbeats 400000 in
theorem compare_any (x y : Lt) (w : World) :
    Calls Tryz.prog 112 #[.agg #[.bool x.neg, .string x.name], .agg #[.bool y.neg, .string y.name]] w fun e w' => e = .returned (.int .i64 (cmpI x y)) ∧ ∃ os, w' = Sort.grow w os := by
  obtain ⟨g, s⟩ := x
  obtain ⟨g', s'⟩ := y
  show Calls Tryz.prog 112 #[.agg #[.bool g, .string s], .agg #[.bool g', .string s']] w _
  cases hn : (s.toList == s'.toList)
  · have HE : Hid (cmpI ⟨g, s⟩ ⟨g', s'⟩ = Lib.compareBytes s.data.toList s'.data.toList) := by show _ = _; simp [cmpI, hn]
    go_enter Tryz.func112, Tryz.ntmps112
    go_wp2_with (go_at_call 155; refine (Tryz.strings_Compare _ _ _).mono ?_; rintro e w' ⟨rfl, rfl⟩)
    go_ret
    exact ⟨ret_int HE.out.symm, _, grow_two _ _ _⟩
  · cases g <;> cases g'
    · have HE : Hid (cmpI ⟨false, s⟩ ⟨false, s'⟩ = 0) := by show _ = _; simp only [cmpI, hn]; rfl
      go_enter Tryz.func112, Tryz.ntmps112
      go_wp2
      go_ret
      exact ⟨ret_int HE.out.symm, _, grow_two _ _ _⟩
    · have HE : Hid (cmpI ⟨false, s⟩ ⟨true, s'⟩ = -1) := by show _ = _; simp only [cmpI, hn]; rfl
      go_enter Tryz.func112, Tryz.ntmps112
      go_wp2
      go_ret
      exact ⟨ret_int HE.out.symm, _, grow_two _ _ _⟩
    · have HE : Hid (cmpI ⟨true, s⟩ ⟨false, s'⟩ = 1) := by show _ = _; simp only [cmpI, hn]; rfl
      go_enter Tryz.func112, Tryz.ntmps112
      go_wp2
      go_ret
      exact ⟨ret_int HE.out.symm, _, grow_two _ _ _⟩
    · have HE : Hid (cmpI ⟨true, s⟩ ⟨true, s'⟩ = 0) := by show _ = _; simp only [cmpI, hn]; rfl
      go_enter Tryz.func112, Tryz.ntmps112
      go_wp2
      go_ret
      exact ⟨ret_int HE.out.symm, _, grow_two _ _ _⟩

set_option maxHeartbeats 400000 in
theorem complement_any (x : Lt) (w : World) :
    Calls Tryz.prog 40 #[.agg #[.bool x.neg, .string x.name]] w fun e w' => e = .returned (.agg #[.bool (!x.neg), .string x.name]) ∧ Below w.heap.size w w' := by
  obtain ⟨g, s⟩ := x
  show Calls Tryz.prog 40 #[.agg #[.bool g, .string s]] w _
  go_enter Tryz.func40, Tryz.ntmps40
  go_wp2
  exact bodyPost_ret (v := .agg #[.bool (!g), .string s]) (by simp [results, Tryz.results40, go_sem]) rfl ⟨rfl, ((Below.refl _ _).alloc (Nat.le_refl _) _).alloc (by simp) _⟩
end Go.Proofs.YtfcoplplkbeljaaGreatDoor
