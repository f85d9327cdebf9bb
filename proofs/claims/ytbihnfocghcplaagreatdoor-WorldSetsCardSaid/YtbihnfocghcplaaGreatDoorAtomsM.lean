/- The plain mathematics of a formula's atoms: ascending strings, each once. -/
import Derived.Sort.KeysCollected
import Derived.Maps.Views
namespace Go.Proofs.YtbihnfocghcplaaGreatDoor
set_option linter.unusedVariables false
set_option linter.unusedSimpArgs false
open Go.RowKit Go.Maps

/-- Ascending strings with one more, each once. -/
def insS (x : ByteArray) : List ByteArray → List ByteArray
  | [] => [x]
  | y :: l => if y.data.toList < x.data.toList then y :: insS x l else if y = x then y :: l else x :: y :: l

/-- Strings in ascending order, each once. -/
def AscS (l : List ByteArray) : Prop := l.Pairwise fun a b => a.data.toList < b.data.toList

theorem bytes_eq {a b : ByteArray} (h : a.data.toList = b.data.toList) : a = b := by
  obtain ⟨⟨a⟩⟩ := a
  obtain ⟨⟨b⟩⟩ := b
  simp only at h
  rw [h]

theorem mem_insS (x z : ByteArray) : ∀ l, z ∈ insS x l ↔ z = x ∨ z ∈ l
  | [] => by simp [insS]
  | y :: l => by
    unfold insS
    split
    · rw [List.mem_cons, mem_insS x z l, List.mem_cons]
      constructor
      · rintro (h | h | h)
        · exact .inr (.inl h)
        · exact .inl h
        · exact .inr (.inr h)
      · rintro (h | h | h)
        · exact .inr (.inl h)
        · exact .inl h
        · exact .inr (.inr h)
    · split
      · rename_i h
        subst h
        simp
      · simp

theorem bytes_tri {a b : ByteArray} (h1 : ¬ a.data.toList < b.data.toList) (h2 : a ≠ b) : b.data.toList < a.data.toList := by
  rcases Classical.em (b.data.toList < a.data.toList) with h | h
  · exact h
  · exact absurd (bytes_eq (List.le_antisymm (List.not_lt.1 h) (List.not_lt.1 h1))) h2

theorem ascS_insS (x : ByteArray) : ∀ l, AscS l → AscS (insS x l)
  | [], _ => by simp [insS, AscS]
  | y :: l, h => by
    unfold AscS at h
    rw [List.pairwise_cons] at h
    unfold insS
    split
    · rename_i hlt
      refine List.pairwise_cons.2 ⟨fun z hz => ?_, ascS_insS x l h.2⟩
      rcases (mem_insS x z l).1 hz with rfl | hz
      · exact hlt
      · exact h.1 z hz
    · rename_i hge
      split
      · exact List.pairwise_cons.2 h
      · rename_i hne
        have hxy := bytes_tri hge hne
        refine List.pairwise_cons.2 ⟨fun z hz => ?_, List.pairwise_cons.2 h⟩
        rcases List.mem_cons.1 hz with rfl | hz
        · exact hxy
        · exact List.lt_trans hxy (h.1 z hz)

/-- The strings of a list in ascending order, each once. -/
def ascOf (l : List ByteArray) : List ByteArray := l.foldl (fun acc x => insS x acc) []

theorem ascOf_snoc (l : List ByteArray) (x : ByteArray) : ascOf (l ++ [x]) = insS x (ascOf l) := by simp [ascOf]

theorem ascOf_asc (l : List ByteArray) : AscS (ascOf l) := by
  have : ∀ (l acc : List ByteArray), AscS acc → AscS (l.foldl (fun acc x => insS x acc) acc) := by
    intro l
    induction l with
    | nil => exact fun acc h => h
    | cons x l ih => exact fun acc h => ih _ (ascS_insS x acc h)
  exact this l [] List.Pairwise.nil

theorem mem_ascOf (z : ByteArray) (l : List ByteArray) : z ∈ ascOf l ↔ z ∈ l := by
  have : ∀ (l acc : List ByteArray), z ∈ l.foldl (fun acc x => insS x acc) acc ↔ z ∈ acc ∨ z ∈ l := by
    intro l
    induction l with
    | nil => simp
    | cons x l ih =>
      intro acc
      rw [List.foldl_cons, ih, mem_insS, List.mem_cons]
      constructor
      · rintro ((h | h) | h)
        · exact .inr (.inl h)
        · exact .inl h
        · exact .inr (.inr h)
      · rintro (h | h | h)
        · exact .inl (.inr h)
        · exact .inl (.inl h)
        · exact .inr h
  simpa [ascOf] using this l []

theorem AscS.nodup {l : List ByteArray} (h : AscS l) : l.Nodup := h.imp fun {a b} hab e => by subst e; exact List.lt_irrefl _ hab

/-- Two ascending lists with the same elements are equal. -/
theorem AscS.unique {l m : List ByteArray} (hl : AscS l) (hm : AscS m) (h : ∀ z, z ∈ l ↔ z ∈ m) : l = m :=
  List.Perm.eq_of_pairwise (le := fun (a b : ByteArray) => a.data.toList < b.data.toList) (fun a b _ _ (h1 : a.data.toList < b.data.toList) (h2 : b.data.toList < a.data.toList) => absurd (List.lt_trans h1 h2) (List.lt_irrefl _)) hl hm ((List.perm_ext_iff_of_nodup hl.nodup hm.nodup).2 h)

theorem ascOf_bytes_nodup (l : List ByteArray) : ((ascOf l).map fun s => s.data.toList).Nodup :=
  List.pairwise_map.2 ((ascOf_asc l).imp fun {a b} hab e => by rw [e] at hab; exact List.lt_irrefl _ hab)

/-- What the library's sort makes of a map's keys. -/
theorem sort_keys {l : List ByteArray} {D : DataW Unit} (hT : Tidy D) (hk : ∃ es, D = .map es ∧ ∀ p ∈ es, ∃ x : List UInt8, p.1 = .string x) (hh : ∀ k, has D k = (l.map fun s => Lit.string s.data.toList).any (fun x => x.sameKey k))
    {ss : List (List UInt8)} (hp : ss.Perm (strKeys D)) : ss.mergeSort (fun x y => decide (x ≤ y)) = (ascOf l).map fun s => s.data.toList := by
  obtain ⟨es, rfl, hpw⟩ := hT
  obtain ⟨es', e, hk⟩ := hk
  cases e
  have h1 : ((ascOf l).map fun s => s.data.toList).Perm (strKeys (.map es : DataW Unit)) := by
    refine perm_strKeys hpw hk (ascOf_bytes_nodup l) fun x => ?_
    rw [hh, List.any_map, List.any_eq_true, List.mem_map]
    constructor
    · rintro ⟨s, hs, rfl⟩
      exact ⟨s, (mem_ascOf s l).1 hs, WideAt.sameKey_self (a := .string s.data.toList) trivial⟩
    · rintro ⟨s, hs, h⟩
      have h2 := WideAt.sameKey_eq (a := .string s.data.toList) (b := .string x) h
      exact ⟨s, (mem_ascOf s l).2 hs, by simpa using h2⟩
  have h2 := mergeSort_of_perm (hp.trans h1.symm)
  have h3 : ((ascOf l).map fun s => s.data.toList).Pairwise (fun a b => leB a b = true) :=
    List.pairwise_map.2 ((ascOf_asc l).imp fun {a b} hab => by simp only [leB, decide_eq_true_eq]; exact List.le_of_lt hab)
  rw [List.mergeSort_of_pairwise h3] at h2
  exact h2
end Go.Proofs.YtbihnfocghcplaaGreatDoor
