/- Maps of strings to bools that a call made. -/
import Derived.Test.YtpiiadmjddikfaaDoorTree
import Derived.Maps.Own
import Derived.Maps.OwnOps
import Derived.Maps.Views
import Derived.DeepKeys4
import Derived.WideKeyArgs
import Derived.Carry
namespace Go.Proofs.YtpiiadmjddikfaaDoor
set_option linter.unusedVariables false
set_option linter.unusedSimpArgs false
open Go.RowKit Go.Maps Go.WideMaps

theorem strKeyed : Keyed Tryd.prog 9 := Keyed.of_law (string_law Tryd.underlying9)
theorem key_str (s : ByteArray) (h : s.size ≤ maxLen) : keyOf Tryd.prog 9 (.string s) = some (.string s.data.toList) := keyOf_string_mk Tryd.underlying9 h

/-- Is a string in a list? -/
def inB (l : List ByteArray) (s : ByteArray) : Bool := l.any fun x => x.data.toList == s.data.toList

/-- The map in which these strings are true. -/
def setD (l : List ByteArray) : DataW Unit := l.foldl (fun D s => D.put (.string s.data.toList) (.lit (.bool true))) (.map [])
theorem setD_snoc (l : List ByteArray) (s : ByteArray) : setD (l ++ [s]) = (setD l).put (.string s.data.toList) (.lit (.bool true)) := by simp [setD]
theorem setD_isMap (l : List ByteArray) : IsMap (setD l) := by
  have : ∀ (l : List ByteArray) (D : DataW Unit), IsMap D → IsMap (l.foldl (fun D s => D.put (.string s.data.toList) (.lit (.bool true))) D) := by
    intro l
    induction l with
    | nil => exact fun D h => h
    | cons x r ih => exact fun D h => ih _ (h.put _ _)
  exact this l _ isMap_empty

theorem bytes_inj {a b : ByteArray} (h : a.data.toList = b.data.toList) : a = b := by
  obtain ⟨⟨a⟩⟩ := a
  obtain ⟨⟨b⟩⟩ := b
  simp only at h
  rw [h]

theorem setD_at (y : ByteArray) (n : Nat) : ∀ l : List ByteArray, l.length = n → (setD l).atKey (.string y.data.toList) (.lit (.bool false)) = .lit (.bool (inB l y)) := by
  induction n with
  | zero =>
    intro l hl
    obtain rfl := List.eq_nil_of_length_eq_zero hl
    rfl
  | succ n ih =>
    intro l hl
    obtain ⟨r, x, rfl⟩ : ∃ r x, l = r ++ [x] := by
      rcases List.eq_nil_or_concat l with h | ⟨r, x, h⟩
      · subst h; simp at hl
      · exact ⟨r, x, by simpa using h⟩
    have hr : r.length = n := by simpa using hl
    rw [setD_snoc]
    by_cases e : y = x
    · subst e
      rw [atKey_put_same (setD_isMap r) (by trivial)]
      simp [inB]
    · rw [atKey_put_other (fun h => e (bytes_inj (by simpa using h))), ih r hr]
      have e' : (x.data.toList == y.data.toList) = false := by rw [beq_eq_false_iff_ne]; exact fun h => e (bytes_inj h.symm)
      simp only [inB, List.any_append, List.any_cons, List.any_nil, e', Bool.or_false]

/-- Block b is a map in which just these strings are true. -/
def SetAt (w : World) (b : Nat) (l : List ByteArray) : Prop := ∃ n, n ≤ l.length ∧ w.ownsMap Tryd.prog 9 (plainElem Tryd.prog 4) b n (setD l)

theorem SetAt.kept {w w' : World} {b : Nat} {l : List ByteArray} {row : Option Nat} (h : SetAt w b l) (hg : w.grownBy w' row) (hr : row ≠ some b) : SetAt w' b l := by
  obtain ⟨n, hn, ho⟩ := h
  exact ⟨n, hn, ho.kept hg (fun e => hr e.symm)⟩
theorem SetAt.go {w w' : World} {b : Nat} {l : List ByteArray} (h : SetAt w b l) (hb : Below w.heap.size w w') : SetAt w' b l := h.kept (only_of_below hb none) (by simp)

set_option maxRecDepth 10000 in
theorem SetAt.lookup {w : World} {b : Nat} {l : List ByteArray} (h : SetAt w b l) (s : ByteArray) (hs : s.size ≤ maxLen) :
    (Instr.lookup 68 (.map (some b)) (.string s) false).run Tryd.prog w = .ok (.bool (inB l s)) w := by
  obtain ⟨n, hn, ho⟩ := h
  have hz : (zeroValue 4).run Tryd.prog w = .ok (.bool false) w := by kernel_rfl
  obtain ⟨v, ps, hrun, hv⟩ := ho.lookup strKeyed Tryd.underlying68 hz (plainElem_bool Tryd.underlying4 false) (key_str s hs)
  unfold plainElem at hv
  rw [Tryd.underlying4] at hv
  cases v <;> simp at hv
  rename_i c
  have h2 := hv.1
  rw [setD_at s _ l rfl] at h2
  have h3 : inB l s = c := by simpa using h2.symm
  rw [h3]
  exact hrun

theorem SetAt.made (w : World) : SetAt (w.alloc (.map #[] 0)) w.heap.size [] := ⟨0, Nat.le_refl _, World.ownsMap_made w _ _ _⟩
theorem SetAt.put {w : World} {b : Nat} {l : List ByteArray} (h : SetAt w b l) (s : ByteArray) (hs : s.size ≤ maxLen) (hl : l.length ≤ 1000000000) :
    ∃ w', (Instr.mapUpdate 68 (.map (some b)) (.string s) (.bool true)).run Tryd.prog w = .ok () w' ∧ SetAt w' b (l ++ [s]) ∧ w.grownBy w' (some b) := by
  obtain ⟨n, hn, ho⟩ := h
  obtain ⟨w3, hrun, hown, hg⟩ := ho.update strKeyed Tryd.underlying68 (by unfold maxLen; omega) (key_str s hs) (plainElem_bool Tryd.underlying4 true)
  refine ⟨w3, hrun, ⟨n + 1, by simp; omega, ?_⟩, hg⟩
  rw [setD_snoc]
  exact hown

/-- A row of strings. -/
def StrsIn (w : World) (S : Nat → Prop) (a : Option Addr) (l : List ByteArray) : Prop := ∃ b off : Nat, (0 < l.length → a = some ⟨b, off, none⟩ ∧ S b) ∧
  ∀ i (h : i < l.length), w.cell? ⟨b, off + i, none⟩ = some (.string l[i]) ∧ l[i].size ≤ maxLen
theorem StrsIn.kept {w w' : World} {S : Nat → Prop} {a : Option Addr} {l : List ByteArray} (h : StrsIn w S a l) (hg : ∀ i, S i → i < w.heap.size → w'.heap[i]? = w.heap[i]?) : StrsIn w' S a l := by
  obtain ⟨b, off, ha, hc⟩ := h
  refine ⟨b, off, ha, fun i hi => ⟨?_, (hc i hi).2⟩⟩
  exact (World.cell?_of_block (a := ⟨b, off + i, none⟩) (hg b (ha (by omega)).2 (World.block_lt_of_cell? w ⟨b, off + i, none⟩ (hc i hi).1))).trans (hc i hi).1
theorem StrsIn.go {w w' : World} {S : Nat → Prop} {a : Option Addr} {l : List ByteArray} (h : StrsIn w S a l) (hb : Below w.heap.size w w') : StrsIn w' S a l := h.kept fun i _ hi => hb.block i hi
theorem StrsIn.mono {w : World} {S S' : Nat → Prop} {a : Option Addr} {l : List ByteArray} (h : StrsIn w S a l) (hS : ∀ i, i < w.heap.size → S i → S' i) : StrsIn w S' a l := by
  obtain ⟨b, off, ha, hc⟩ := h
  exact ⟨b, off, fun h => ⟨(ha h).1, hS b (World.block_lt_of_cell? w ⟨b, off + 0, none⟩ (hc 0 h).1) (ha h).2⟩, hc⟩
theorem StrsIn.at {w : World} {S : Nat → Prop} {a : Option Addr} {l : List ByteArray} (h : StrsIn w S a l) (i : Nat) (hi : i < l.length) : ∃ b off : Nat, a = some ⟨b, off, none⟩ ∧ w.cell? ⟨b, off + i, none⟩ = some (.string l[i]) ∧ l[i].size ≤ maxLen := by
  obtain ⟨b, off, ha, hc⟩ := h
  exact ⟨b, off, (ha (by omega)).1, hc i hi⟩
theorem StrsIn.nil {w : World} {S : Nat → Prop} (a : Option Addr) : StrsIn w S a [] := ⟨0, 0, fun h => by simp at h, fun i h => by simp at h⟩
end Go.Proofs.YtpiiadmjddikfaaDoor
