/- What LiteralBack calls, at what it calls it with: a text read and written again, a literal written and read again. -/
import Derived.Test.YtbldlngblmegfaaAwakeW
namespace Go.Proofs.Ytbldlngblmegfaa
open Go.RowKit Go.Sort

theorem letter_back : ∀ m : Fin 26, ∀ g : Bool, vn (bare (fmtB g (letter m))) = true ∧ cutB (fmtB g (letter m)) = g ∧ bare (fmtB g (letter m)) = letter m ∧ (fmtB g (letter m)).size ≤ 2 ∧ (letter m).size = 1 := by decide +kernel

theorem parse_letter (g : Bool) (m : Nat) (hm : m < 26) (w : World) :
    Calls Try.prog 18 #[.string (fmtB g (letter m))] w fun e w' => e = .returned (.tuple #[.agg #[.bool g, .string (letter m)], .int .i64 0]) ∧ Below w.heap.size w w' := by
  obtain ⟨h1, h2, h3, h4, _⟩ := letter_back ⟨m, hm⟩ g
  have := parse_good (fmtB g (letter m)) w (by unfold maxLen; simp only at h4; omega) h1
  simp only at h2 h3
  rw [h2, h3] at this
  exact this

theorem format_letter (g : Bool) (m : Nat) (hm : m < 26) (w : World) :
    Calls Try.prog 16 #[.agg #[.bool g, .string (letter m)]] w fun e w' => e = .returned (.string (fmtB g (letter m))) ∧ Below w.heap.size w w' := by
  obtain ⟨_, _, _, _, h5⟩ := letter_back ⟨m, hm⟩ g
  exact format_any g (letter m) w (by unfold maxLen; simp only at h5; omega)

/-- A text that reads as a literal is that literal's text. -/
theorem text_back (t : ByteArray) (h : vn (bare t) = true) : fmtB (cutB t) (bare t) = t := by
  unfold fmtB
  rw [if_pos h]
  cases hc : cutB t
  · simp [bare, hc]
  · have hp := cutB_pos t hc
    rw [cutB_eq] at hc
    simp only [if_true, bare, cutB_eq, hc]
    apply bytes_eq
    have e0 : (⟨#[126]⟩ ++ t.extract 1 t.size : ByteArray).data.toList = 126 :: (t.extract 1 t.size).data.toList := by simp
    rw [e0, Lib.extract_data]
    have hl : t.data.toList.length = t.size := (Lib.size_eq t).symm
    match ht : t.data.toList with
    | [] => rw [ht] at hl; simp at hl; omega
    | c :: r =>
      rw [ht] at hc hl
      simp at hc
      subst hc
      simp only [List.drop_succ_cons, List.drop_zero]
      rw [List.take_of_length_le (by simp at hl; omega)]

theorem format_text (t : ByteArray) (h : vn (bare t) = true) (ht : t.size ≤ maxLen) (w : World) :
    Calls Try.prog 16 #[.agg #[.bool (cutB t), .string (bare t)]] w fun e w' => e = .returned (.string t) ∧ Below w.heap.size w w' := by
  have := format_any (cutB t) (bare t) w (Nat.le_trans (bare_le t) ht)
  rw [text_back t h] at this
  exact this
end Go.Proofs.Ytbldlngblmegfaa
