/- One line added to a rule base. -/
import Derived.Test.YthdlmmikgpkfhaaGreatDoorZ1B5aa
import Derived.Test.YthdlmmikgpkfhaaGreatDoorZ1B5s
import Derived.Test.YthdlmmikgpkfhaaGreatDoorZ1B5ka

namespace Go.Proofs.YthdlmmikgpkfhaaGreatDoor
set_option linter.unusedVariables false
set_option linter.unusedSimpArgs false
open Go Go.RowKit

theorem fieldsGoD_len : ∀ (f : Nat) (cur l : List UInt8), (Lib.fieldsGoD f cur l).length ≤ f + 1 ∧ ∀ x ∈ Lib.fieldsGoD f cur l, x.length ≤ cur.length + l.length
  | 0, cur, l => by
    unfold Lib.fieldsGoD
    split
    · exact ⟨by simp, fun x hx => by simp at hx⟩
    · exact ⟨by simp, fun x hx => by rw [List.mem_singleton.1 hx]; omega⟩
  | f + 1, cur, l => by
    unfold Lib.fieldsGoD
    split
    · split
      · exact ⟨by simp, fun x hx => by simp at hx⟩
      · exact ⟨by simp, fun x hx => by rw [List.mem_singleton.1 hx]; omega⟩
    · split
      · have ih := fieldsGoD_len f [] (l.drop (Lib.decodeL l).2)
        refine ⟨?_, fun x hx => ?_⟩
        · rw [List.length_append]
          have : (if cur = [] then ([] : List (List UInt8)) else [cur]).length ≤ 1 := by split <;> simp
          omega
        · rcases List.mem_append.1 hx with h | h
          · split at h
            · simp at h
            · rw [List.mem_singleton.1 h]; omega
          · have := ih.2 x h
            simp only [List.length_nil, List.length_drop] at this
            omega
      · have ih := fieldsGoD_len f (cur ++ l.take (Lib.decodeL l).2) (l.drop (Lib.decodeL l).2)
        refine ⟨by omega, fun x hx => ?_⟩
        have := ih.2 x hx
        simp only [List.length_append, List.length_take, List.length_drop] at this
        omega
theorem words_len (s : ByteArray) (hs : s.size ≤ 4096) : (wordsOf s).length ≤ 5000 ∧ WsOk (wordsOf s) := by
  have hl : s.data.toList.length = s.size := Array.length_toList
  have h := fieldsGoD_len (s.data.toList.length + 1) [] s.data.toList
  refine ⟨?_, fun x hx => ?_⟩
  · unfold wordsOf Lib.fieldsD
    rw [List.length_map]
    omega
  · obtain ⟨y, hy, rfl⟩ := List.mem_map.1 hx
    have := h.2 y hy
    show y.toArray.size ≤ 4096
    rw [List.size_toArray]
    simp only [List.length_nil] at this
    omega

theorem fields5_any (s : ByteArray) (hs : s.size ≤ 4096) (w : World) (hE : EnvOk w) :
    Calls Tryz.prog 134 #[.string s] w fun e w' => ∃ A : Nat, e = .returned (.slice (some ⟨A, 0, none⟩) (wordsOf s).length (wordsOf s).length) ∧ A < w'.heap.size ∧ (∀ i (h : i < (wordsOf s).length), w'.cell? ⟨A, i, none⟩ = some (.string (wordsOf s)[i])) ∧ Below w.heap.size w w' := by
  refine (Tryz.strings_Fields_any s w (by omega) hE.tab hE.white).mono fun e w' ⟨A, he, hA, hown, hb⟩ => ?_
  have hl : (wordsOf s).length = (Lib.fieldsD s.data.toList).length := by unfold wordsOf; rw [List.length_map]
  refine ⟨A, by rw [hl]; exact he, (owns_blk hown A rfl).2, fun i hi => ?_, hb⟩
  exact owns_cell hown rfl i _ (by
    have hg : (wordsOf s)[i] = ⟨((Lib.fieldsD s.data.toList)[i]'(by omega)).toArray⟩ := by simp only [wordsOf, List.getElem_map]
    rw [List.getElem?_map, List.getElem?_eq_getElem (by omega), hg]
    rfl)

theorem below_app5 {n : Nat} {w a a' : World} {row : Option Nat} (h : Below n w a) (hg : a.grownBy a' row) (hr : ∀ g, row = some g → n ≤ g) (hna : n ≤ a.heap.size) : Below n w a' :=
  ⟨hg.os.trans h.os, hg.tape.trans h.tape, hg.output.trans h.output, Nat.le_trans h.size hg.size, fun k hk => (hg.block k (by omega) (fun e => by have := hr k e.symm; omega)).trans (h.block k hk)⟩
theorem below_set5 {n b i : Nat} {u : Value} {w a : World} (h : Below n w a) (hb : n ≤ b) : Below n w (a.setCell ⟨b, i, none⟩ u) :=
  ⟨h.os, h.tape, h.output, by rw [size_setCell]; exact h.size, fun k hk => (Below.heap_setCell a ⟨b, i, none⟩ u k (by show k ≠ b; omega)).trans (h.block k hk)⟩
theorem BodyIn.len {w : World} {S : Nat → Prop} {a : Option Addr} {n c : Nat} {xs : List Lt} (h : BodyIn w S (.slice a n c) xs) : n = xs.length := by
  rcases h with ⟨h1, h2⟩ | ⟨b, off, cap, h1, -⟩
  · injection h1 with e1 e2 e3
    subst h2
    exact e2
  · injection h1 with e1 e2 e3

end Go.Proofs.YthdlmmikgpkfhaaGreatDoor
