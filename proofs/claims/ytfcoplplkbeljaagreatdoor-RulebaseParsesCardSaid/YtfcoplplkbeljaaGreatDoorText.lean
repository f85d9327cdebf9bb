/- Texts of literals: what Valid, Format and Parse answer, of the program and of the document's own answers, for every literal and every string. -/
import Derived.Test.YtfcoplplkbeljaaGreatDoorNew
import Derived.Test.YtfcoplplkbeljaaGreatDoorLit
namespace Go.Proofs.YtfcoplplkbeljaaGreatDoor
set_option linter.unusedVariables false
set_option linter.unusedSimpArgs false
open Go.RowKit

set_option maxHeartbeats 400000 in
theorem valid_any (g : Bool) (s : ByteArray) (w : World) (hs : s.size ≤ maxLen) :
    Calls Tryz.prog 141 #[.agg #[.bool g, .string s]] w fun e w' => e = .returned (.bool (vn s)) ∧ Below w.heap.size w w' := by
  go_enter Tryz.func141, Tryz.ntmps141
  go_wp2_with (go_at_call 145; refine (validName_any s _ hs).mono ?_; rintro e w' ⟨rfl, rfl⟩)
  go_ret
  exact ⟨rfl, (Below.refl _ _).alloc (Nat.le_refl _) _⟩

/-- The text of a literal. -/
def fmtB (g : Bool) (s : ByteArray) : ByteArray := if vn s then (if g then ⟨#[126]⟩ ++ s else s) else ⟨#[]⟩

theorem bcell {W w1 : World} (hb : Below W.heap.size W w1) : (∀ b o, b < W.heap.size → w1.cell? ⟨b, o, none⟩ = W.cell? ⟨b, o, none⟩) ∧ (∀ b o, b < W.heap.size → w1.frozen? ⟨b, o, none⟩ = W.frozen? ⟨b, o, none⟩) :=
  ⟨fun b o h => hb.cell (p := ⟨b, o, none⟩) h, fun b o h => hb.frozen (p := ⟨b, o, none⟩) h⟩

theorem laid_cells {w w1 : World} {u v : Value} {t : TypeId} (hb : Below (w.alloc (.cells #[u, v] t)).heap.size (w.alloc (.cells #[u, v] t)) w1) :
    w1.cell? ⟨w.heap.size, 0, none⟩ = some u ∧ w1.cell? ⟨w.heap.size, 1, none⟩ = some v := by
  have h := laid_two (w := w) (only_of_below hb none) (by simp)
  exact ⟨cell_two0 h, cell_two1 h⟩

theorem below_of_alloc {w w1 : World} {o : Obj} (hb : Below (w.alloc o).heap.size (w.alloc o) w1) : Below w.heap.size w w1 := ((Below.refl _ _).alloc (Nat.le_refl _) o).trans (hb.mono (by simp))

theorem ret_str {a b : ByteArray} (h : a = b) : Ending.returned (.string a) = .returned (.string b) := by rw [h]

set_option maxHeartbeats 400000 in
theorem format_any (g : Bool) (s : ByteArray) (w : World) (hs : s.size ≤ maxLen) :
    Calls Tryz.prog 139 #[.agg #[.bool g, .string s]] w fun e w' => e = .returned (.string (fmtB g s)) ∧ Below w.heap.size w w' := by
  cases hv : vn s
  · have HE : Hid (fmtB g s = ⟨#[]⟩) := by show _ = _; simp [fmtB, hv]
    go_enter Tryz.func139, Tryz.ntmps139
    go_wp2_with (go_at_call 141; refine (valid_any g s _ hs).mono ?_; rintro e w' ⟨rfl, hb⟩; have HB := hidIt hb; obtain ⟨c0, c1⟩ := laid_cells hb; clear hb)
    go_ret
    exact ⟨ret_str HE.out.symm, below_of_alloc HB.out⟩
  cases g
  · have HE : Hid (fmtB false s = s) := by show _ = _; simp [fmtB, hv]
    go_enter Tryz.func139, Tryz.ntmps139
    go_wp2_with (go_at_call 141; refine (valid_any false s _ hs).mono ?_; rintro e w' ⟨rfl, hb⟩; have HB := hidIt hb; obtain ⟨c0, c1⟩ := laid_cells hb; clear hb)
    go_ret
    exact ⟨ret_str HE.out.symm, below_of_alloc HB.out⟩
  · have h12 : s.size ≤ 12 := by
      have := hv
      simp only [vn, Bool.and_eq_true, decide_eq_true_eq] at this
      exact this.1.2
    have HE : Hid (fmtB true s = ⟨#[126]⟩ ++ s) := by show _ = _; simp [fmtB, hv]
    go_enter Tryz.func139, Tryz.ntmps139
    go_wp2_with (go_at_call 141; refine (valid_any true s _ hs).mono ?_; rintro e w' ⟨rfl, hb⟩; have HB := hidIt hb; obtain ⟨c0, c1⟩ := laid_cells hb; clear hb)
    go_ret
    exact ⟨ret_str HE.out.symm, below_of_alloc HB.out⟩
end Go.Proofs.YtfcoplplkbeljaaGreatDoor
