/- literal.Consistent, for every list: it keeps a map of the literals that it has met. -/
import Derived.Test.YtbldlngblmegfaaLits
import Derived.Maps.Own
import Derived.Maps.OwnOps
import Derived.Maps.Views
import Derived.DeepKeys4
import Derived.WideKeyArgs
import Derived.Carry
namespace Go.Proofs.Ytbldlngblmegfaa
open Go.RowKit Go.Sort Go.Maps

theorem laidOut : laidOutB Try.prog = true := by kernel_rfl
theorem litRow : (23 : TypeId) < Try.prog.types.size := of_decide_eq_true (by kernel_rfl)
theorem litWide : (match Try.prog.underlying 23 with | some (.array _ _) | some (.struct _) => true | _ => false) = true := by rw [Try.underlying23]
theorem litKeyed : Keyed Try.prog 23 := Keyed.of_law (deep_law_laid laidOut (m := 2) (by omega) litRow (by kernel_rfl) litWide)

/-- A literal as a key. -/
def klit (x : Lt) : Lit := .string (keyBytes [.bool x.neg, .string x.name.data.toList])

theorem litKeyT : Try.prog.keyType 23 = true := by kernel_rfl
theorem litCells : Try.prog.cellsOf 23 = 2 := by kernel_rfl
theorem boolCells : Try.prog.cellsOf 4 = 1 := by kernel_rfl
theorem strCells : Try.prog.cellsOf 9 = 1 := by kernel_rfl
theorem typesTwo : ∃ m, Try.prog.types.size + 1 = m + 2 := ⟨Try.prog.types.size - 1, by have h : 0 < Try.prog.types.size := Nat.lt_of_le_of_lt (Nat.zero_le _) litRow; omega⟩

theorem key_lit (x : Lt) (h : x.name.size ≤ maxLen) : keyOf Try.prog 23 (.agg #[.bool x.neg, .string x.name]) = some (klit x) := by
  obtain ⟨m, hm⟩ := typesTwo
  unfold keyOf
  rw [Try.underlying23, hm]
  simp only [litKeyT, Value.formed, Try.underlying23, litCells]
  simp [Program.keyLits, Try.underlying23, litCells, Try.underlying4, Try.underlying9, boolCells, strCells, h, klit, Value.cells]

theorem klit_inj {x y : Lt} (hx : x.name.size ≤ maxLen) (hy : y.name.size ≤ maxLen) (h : klit x = klit y) : x = y := by
  have := litKeyed.inj (key_lit x hx) (by rw [h]; exact key_lit y hy)
  obtain ⟨g, s⟩ := x
  obtain ⟨g', s'⟩ := y
  simp only [Value.agg.injEq] at this
  injection this with h1
  simp at h1
  rw [h1.1, h1.2]

/-- All names are short enough for a string. -/
def Short (xs : List Lt) : Prop := ∀ x ∈ xs, x.name.size ≤ maxLen

/-- The map of the literals met. -/
def seenD (l : List Lt) : DataW Unit := l.foldl (fun D x => D.put (klit x) (.lit (.bool true))) (.map [])

theorem seenD_snoc (l : List Lt) (x : Lt) : seenD (l ++ [x]) = (seenD l).put (klit x) (.lit (.bool true)) := by simp [seenD]

theorem seenD_isMap (l : List Lt) : IsMap (seenD l) := by
  have : ∀ (l : List Lt) (D : DataW Unit), IsMap D → IsMap (l.foldl (fun D x => D.put (klit x) (.lit (.bool true))) D) := by
    intro l
    induction l with
    | nil => exact fun D h => h
    | cons x r ih => exact fun D h => ih _ (h.put _ _)
  exact this l _ isMap_empty

theorem seenD_at (y : Lt) (hy : y.name.size ≤ maxLen) (n : Nat) : ∀ l : List Lt, l.length = n → Short l → (seenD l).atKey (klit y) (.lit (.bool false)) = .lit (.bool (decide (y ∈ l))) := by
  induction n with
  | zero =>
    intro l hl _
    obtain rfl := List.eq_nil_of_length_eq_zero hl
    rfl
  | succ n ih =>
    intro l hl hs
    obtain ⟨r, x, rfl⟩ : ∃ r x, l = r ++ [x] := by
      rcases List.eq_nil_or_concat l with h | ⟨r, x, h⟩
      · subst h; simp at hl
      · exact ⟨r, x, by simpa using h⟩
    have hr : r.length = n := by simpa using hl
    have hsx : x.name.size ≤ maxLen := hs x (by simp)
    rw [seenD_snoc]
    by_cases e : y = x
    · subst e
      rw [atKey_put_same (seenD_isMap r) (by trivial)]
      simp
    · rw [atKey_put_other (fun h => e (klit_inj hy hsx h)), ih r hr (fun z hz => hs z (by simp [hz]))]
      simp [e]

theorem lookup_bool {w : World} {b n : Nat} {D : DataW Unit} (h : w.ownsMap Try.prog 23 (plainElem Try.prog 4) b n D) (x : Lt) (hx : x.name.size ≤ maxLen) :
    ∃ c : Bool, (Instr.lookup 67 (.map (some b)) (.agg #[.bool x.neg, .string x.name]) false).run Try.prog w = .ok (.bool c) w ∧ D.atKey (klit x) (.lit (.bool false)) = .lit (.bool c) := by
  have hz : (zeroValue 4).run Try.prog w = .ok (.bool false) w := by kernel_rfl
  obtain ⟨v, ps, hrun, hv⟩ := h.lookup litKeyed Try.underlying67 hz (plainElem_bool Try.underlying4 false) (key_lit x hx)
  unfold plainElem at hv
  rw [Try.underlying4] at hv
  cases v <;> simp at hv
  exact ⟨_, hrun, hv.1.symm⟩

/-- The complement. -/
def comp (x : Lt) : Lt := ⟨!x.neg, x.name⟩

/-- None of the first k literals is the complement of an earlier one. -/
def consUpto (xs : List Lt) : Nat → Bool
  | 0 => true
  | k + 1 => consUpto xs k && !decide (comp xs[k]! ∈ xs.take k)
def consB (xs : List Lt) : Bool := consUpto xs xs.length

theorem consUpto_false (xs : List Lt) (k n : Nat) (h : k ≤ n) (hk : consUpto xs k = false) : consUpto xs n = false := by
  induction n with
  | zero => obtain rfl : k = 0 := by omega
            exact hk
  | succ n ih =>
    by_cases e : k = n + 1
    · rw [← e]; exact hk
    · simp [consUpto, ih (by omega)]

theorem take_snoc (xs : List Lt) (k : Nat) (h : k < xs.length) : xs.take (k + 1) = xs.take k ++ [xs[k]!] := by
  rw [List.take_succ_eq_append_getElem h, getElem!_pos xs k h]
end Go.Proofs.Ytbldlngblmegfaa
