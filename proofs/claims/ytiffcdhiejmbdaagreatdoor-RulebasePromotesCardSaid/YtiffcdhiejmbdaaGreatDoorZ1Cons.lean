/- literal.Consistent, for every list: it keeps a map of the literals that it has met. -/
import Derived.Test.YtiffcdhiejmbdaaGreatDoorZ1A
import Derived.Maps.Own
import Derived.Maps.OwnOps
import Derived.Maps.Views
import Derived.DeepKeys4
import Derived.WideKeyArgs
import Derived.Carry

namespace Go.Proofs.YtiffcdhiejmbdaaGreatDoor
set_option linter.unusedVariables false
set_option linter.unusedSimpArgs false
open Go.RowKit Go.Sort Go.Maps
set_option maxRecDepth 100000

theorem laidOut : laidOutB Tryz.prog = true := by kernel_rfl
theorem litRow : (28 : TypeId) < Tryz.prog.types.size := of_decide_eq_true (by kernel_rfl)
theorem litWide : (match Tryz.prog.underlying 28 with | some (.array _ _) | some (.struct _) => true | _ => false) = true := by rw [Tryz.underlying28]
theorem litKeyed : Keyed Tryz.prog 28 := Keyed.of_law (deep_law_laid laidOut (m := 2) (by omega) litRow (by kernel_rfl) litWide)

/-- A literal as a key. -/
def klit (x : Lt) : Lit := .string (keyBytes [.bool x.neg, .string x.name.data.toList])

theorem litKeyT : Tryz.prog.keyType 28 = true := by kernel_rfl
theorem litCells : Tryz.prog.cellsOf 28 = 2 := by kernel_rfl
theorem boolCells : Tryz.prog.cellsOf 4 = 1 := by kernel_rfl
theorem strCells : Tryz.prog.cellsOf 9 = 1 := by kernel_rfl
theorem typesTwo : ∃ m, Tryz.prog.types.size + 1 = m + 2 := ⟨Tryz.prog.types.size - 1, by have h : 0 < Tryz.prog.types.size := Nat.lt_of_le_of_lt (Nat.zero_le _) litRow; omega⟩

theorem key_lit (x : Lt) (h : x.name.size ≤ maxLen) : keyOf Tryz.prog 28 (.agg #[.bool x.neg, .string x.name]) = some (klit x) := by
  obtain ⟨m, hm⟩ := typesTwo
  unfold keyOf
  rw [Tryz.underlying28, hm]
  simp only [litKeyT, Value.formed, Tryz.underlying28, litCells]
  simp [Program.keyLits, Tryz.underlying28, litCells, Tryz.underlying4, Tryz.underlying9, boolCells, strCells, h, klit, Value.cells]

theorem klit_inj {x y : Lt} (hx : x.name.size ≤ maxLen) (hy : y.name.size ≤ maxLen) (h : klit x = klit y) : x = y := by
  have := litKeyed.inj (key_lit x hx) (by rw [h]; exact key_lit y hy)
  obtain ⟨g, s⟩ := x
  obtain ⟨g', s'⟩ := y
  simp only [Value.agg.injEq] at this
  injection this with h1
  simp at h1
  rw [h1.1, h1.2]

/-- All names are short enough for a string. -/
def Short (xs : List Lt) : Prop := ∀ x ∈ xs, x.name.size ≤ maxLen

/-- The map of the literals met. -/
def seenD (l : List Lt) : DataW Unit := l.foldl (fun D x => D.put (klit x) (.lit (.bool true))) (.map [])

theorem seenD_snoc (l : List Lt) (x : Lt) : seenD (l ++ [x]) = (seenD l).put (klit x) (.lit (.bool true)) := by simp [seenD]

theorem seenD_isMap (l : List Lt) : IsMap (seenD l) := by
  have : ∀ (l : List Lt) (D : DataW Unit), IsMap D → IsMap (l.foldl (fun D x => D.put (klit x) (.lit (.bool true))) D) := by
    intro l
    induction l with
    | nil => exact fun D h => h
    | cons x r ih => exact fun D h => ih _ (h.put _ _)
  exact this l _ isMap_empty

theorem seenD_at (y : Lt) (hy : y.name.size ≤ maxLen) (n : Nat) : ∀ l : List Lt, l.length = n → Short l → (seenD l).atKey (klit y) (.lit (.bool false)) = .lit (.bool (decide (y ∈ l))) := by
  induction n with
  | zero =>
    intro l hl _
    obtain rfl := List.eq_nil_of_length_eq_zero hl
    rfl
  | succ n ih =>
    intro l hl hs
    obtain ⟨r, x, rfl⟩ : ∃ r x, l = r ++ [x] := by
      rcases List.eq_nil_or_concat l with h | ⟨r, x, h⟩
      · subst h; simp at hl
      · exact ⟨r, x, by simpa using h⟩
    have hr : r.length = n := by simpa using hl
    have hsx : x.name.size ≤ maxLen := hs x (by simp)
    rw [seenD_snoc]
    by_cases e : y = x
    · subst e
      rw [atKey_put_same (seenD_isMap r) (by trivial)]
      simp
    · rw [atKey_put_other (fun h => e (klit_inj hy hsx h)), ih r hr (fun z hz => hs z (by simp [hz]))]
      simp [e]

theorem lookup_bool {w : World} {b n : Nat} {D : DataW Unit} (h : w.ownsMap Tryz.prog 28 (plainElem Tryz.prog 4) b n D) (x : Lt) (hx : x.name.size ≤ maxLen) :
    ∃ c : Bool, (Instr.lookup 129 (.map (some b)) (.agg #[.bool x.neg, .string x.name]) false).run Tryz.prog w = .ok (.bool c) w ∧ D.atKey (klit x) (.lit (.bool false)) = .lit (.bool c) := by
  have hz : (zeroValue 4).run Tryz.prog w = .ok (.bool false) w := by kernel_rfl
  obtain ⟨v, ps, hrun, hv⟩ := h.lookup litKeyed Tryz.underlying129 hz (plainElem_bool Tryz.underlying4 false) (key_lit x hx)
  unfold plainElem at hv
  rw [Tryz.underlying4] at hv
  cases v <;> simp at hv
  exact ⟨_, hrun, hv.1.symm⟩

/-- The complement. -/
def comp (x : Lt) : Lt := ⟨!x.neg, x.name⟩

/-- None of the first k literals is the complement of an earlier one. -/
def consUpto (xs : List Lt) : Nat → Bool
  | 0 => true
  | k + 1 => consUpto xs k && !decide (comp xs[k]! ∈ xs.take k)
def consB (xs : List Lt) : Bool := consUpto xs xs.length

theorem consUpto_false (xs : List Lt) (k n : Nat) (h : k ≤ n) (hk : consUpto xs k = false) : consUpto xs n = false := by
  induction n with
  | zero => obtain rfl : k = 0 := by omega
            exact hk
  | succ n ih =>
    by_cases e : k = n + 1
    · rw [← e]; exact hk
    · simp [consUpto, ih (by omega)]

theorem take_snoc (xs : List Lt) (k : Nat) (h : k < xs.length) : xs.take (k + 1) = xs.take k ++ [xs[k]!] := by
  rw [List.take_succ_eq_append_getElem h, getElem!_pos xs k h]
end Go.Proofs.YtiffcdhiejmbdaaGreatDoor
