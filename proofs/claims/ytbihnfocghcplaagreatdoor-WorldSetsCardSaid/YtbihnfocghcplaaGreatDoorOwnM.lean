/- The value of a formula depends on its own atoms alone: the plain mathematics of the law FormulaOwn. -/
import Derived.Test.YtbihnfocghcplaaGreatDoorAtoms
import Derived.Test.YtbihnfocghcplaaGreatDoorLemmaM
namespace Go.Proofs.YtbihnfocghcplaaGreatDoor
set_option linter.unusedVariables false
set_option linter.unusedSimpArgs false
open Go Go.RowKit

theorem keysL_mem {t : Tree} : ∀ {ts : List Tree}, t ∈ ts → ∀ k ∈ keysT t, k ∈ keysL ts
  | [], h, _, _ => by cases h
  | u :: ts, h, k, hk => by
    rw [keysL, List.mem_append]
    rcases List.mem_cons.1 h with rfl | h
    · exact .inl hk
    · exact .inr (keysL_mem h k hk)

theorem mem_atomKs {ks : List (Int × ByteArray × Nat)} {s : ByteArray} : s ∈ atomKs ks ↔ (3, s, 0) ∈ ks := by
  unfold atomKs
  rw [List.mem_map]
  constructor
  · rintro ⟨⟨o, s', n⟩, hk, rfl⟩
    obtain ⟨h1, h2⟩ := List.mem_filter.1 hk
    simp only [Bool.and_eq_true, decide_eq_true_eq] at h2
    obtain ⟨rfl, rfl⟩ := h2
    exact h1
  · intro h
    exact ⟨_, List.mem_filter.2 ⟨h, rfl⟩, rfl⟩

theorem value_own (p q : ByteArray → Bool) : ∀ t : Tree, t.all kindB = true → (∀ s, (3, s, 0) ∈ keysT t → p s = q s) → valueB p t = valueB q t := by
  refine Tree.ind fun op name ts ih hk h => ?_
  obtain ⟨k1, k2⟩ := all_self hk
  have hall : valuesB p ts = valuesB q ts := by
    rw [valuesB_map, valuesB_map]
    refine List.map_congr_left fun t ht => ih t ht (allL_mem k2 t ht) fun s hs => h s ?_
    rw [keysT]
    exact List.mem_cons_of_mem _ (keysL_mem ht _ hs)
  unfold valueB
  rw [hall]
  by_cases h3 : op = 3
  · subst h3
    have h0 : ts.length = 0 := by
      simp only [kindB, Tree.op_node, Tree.args_node] at k1
      simpa using k1
    have := h name (by rw [keysT, h0]; exact List.mem_cons_self)
    simp [this]
  · have hop : op = 1 ∨ op = 2 ∨ op = 4 ∨ op = 5 ∨ op = 6 ∨ op = 7 ∨ op = 8 := by
      unfold kindB at k1
      simp only [Tree.op_node, Tree.args_node] at k1
      grind
    rcases hop with rfl | rfl | rfl | rfl | rfl | rfl | rfl <;> simp

/-- The value depends on the formula's own atoms alone. -/
theorem eval_own {t : Tree} {l m : List ByteArray} (h : ∀ s ∈ atomsT t, inB l s = inB m s) : evalB t l = evalB t m := by
  unfold evalB
  cases hw : wellF t
  · rfl
  · rw [wellF_split, Bool.and_eq_true] at hw
    rw [Bool.true_and, Bool.true_and, value_own (inB l) (inB m) t hw.1 fun s hs => h s ((mem_ascOf s _).2 (mem_atomKs.2 hs))]

theorem inB_append (l m : List ByteArray) (s : ByteArray) : inB (l ++ m) s = (inB l s || inB m s) := by simp [inB]
theorem inB_one (x s : ByteArray) : inB [x] s = (x.data.toList == s.data.toList) := by simp [inB]
theorem inB_mem {l : List ByteArray} {s : ByteArray} : inB l s = true ↔ s ∈ l := by
  unfold inB
  rw [List.any_eq_true]
  constructor
  · rintro ⟨x, hx, he⟩
    have e := bytes_inj (a := x) (b := s) (by simpa using he)
    rw [← e]
    exact hx
  · exact fun h => ⟨s, h, by simp⟩
theorem inB_take (l : List ByteArray) (k : Nat) (h : k < l.length) (s : ByteArray) : inB (l.take (k + 1)) s = (inB (l.take k) s || inB [l[k]] s) := by rw [take_snoc' l k h, inB_append]

/-- Some of the strings of 'more' that are no atoms stand behind 'yes'. -/
def AllP (a yes l : List ByteArray) : Prop := ∀ s ∈ a, inB l s = inB yes s
theorem AllP.start (a yes : List ByteArray) : AllP a yes yes := fun _ _ => rfl
theorem AllP.snoc {a yes l : List ByteArray} (h : AllP a yes l) {m : ByteArray} (hm : inB a m = false) : AllP a yes (l ++ [m]) := fun s hs => by
  rw [inB_append, h s hs, inB_one]
  have : (m.data.toList == s.data.toList) = false := by
    rw [beq_eq_false_iff_ne]
    intro e
    rw [bytes_inj e] at hm
    rw [inB_mem.2 hs] at hm
    cases hm
  rw [this, Bool.or_false]

/-- Those of the first strings of 'yes' that are atoms; and of the next one, x, as far as the atoms have been looked at. -/
def FewP (y a : List ByteArray) (x : ByteArray) (k : Nat) (l : List ByteArray) : Prop := ∀ s, inB l s = ((inB y s && inB a s) || (inB [x] s && inB (a.take k) s))
theorem FewP.start {y a : List ByteArray} (x : ByteArray) {l : List ByteArray} (h : ∀ s, inB l s = (inB y s && inB a s)) : FewP y a x 0 l := fun s => by
  rw [h s]
  simp [inB]
theorem FewP.yes {y a : List ByteArray} {x : ByteArray} {k : Nat} {l : List ByteArray} (h : FewP y a x k l) (hk : k < a.length) (e : x = a[k]) : FewP y a x (k + 1) (l ++ [x]) := fun s => by
  rw [inB_append, h s, inB_take a k hk, ← e]
  cases inB [x] s <;> simp
theorem FewP.no {y a : List ByteArray} {x : ByteArray} {k : Nat} {l : List ByteArray} (h : FewP y a x k l) (hk : k < a.length) (e : x ≠ a[k]) : FewP y a x (k + 1) l := fun s => by
  rw [h s, inB_take a k hk]
  have : (inB [x] s && inB [a[k]] s) = false := by
    rw [Bool.and_eq_false_iff]
    by_cases h1 : inB [x] s = true
    · right
      rw [inB_one] at h1 ⊢
      rw [beq_eq_false_iff_ne]
      intro h2
      exact e (bytes_inj ((by simpa using h1 : x.data.toList = s.data.toList).trans h2.symm))
    · left
      simpa using h1
  rw [Bool.and_or_distrib_left, this, Bool.or_false]
theorem FewP.stop {y a : List ByteArray} {x : ByteArray} {l : List ByteArray} (h : FewP y a x a.length l) : ∀ s, inB l s = (inB (y ++ [x]) s && inB a s) := fun s => by
  rw [h s, List.take_length, inB_append, Bool.and_or_distrib_right]

theorem few_eval {t : Tree} {yes l : List ByteArray} (h : ∀ s, inB l s = (inB yes s && inB (atomsT t) s)) : evalB t l = evalB t yes :=
  eval_own fun s hs => by rw [h s, inB_mem.2 hs, Bool.and_true]

theorem insS_len (x : ByteArray) : ∀ l, (insS x l).length ≤ l.length + 1
  | [] => by simp [insS]
  | y :: l => by
    unfold insS
    split
    · have := insS_len x l
      simp only [List.length_cons]
      omega
    · split
      · simp
      · simp
theorem ascOf_len (l : List ByteArray) : (ascOf l).length ≤ l.length := by
  have : ∀ (l acc : List ByteArray), (l.foldl (fun acc x => insS x acc) acc).length ≤ acc.length + l.length := by
    intro l
    induction l with
    | nil => intro acc; simp
    | cons x l ih =>
      intro acc
      have h1 := ih (insS x acc)
      have h2 := insS_len x acc
      simp only [List.foldl_cons, List.length_cons]
      omega
  simpa [ascOf] using this l []
theorem atomsT_len (t : Tree) : (atomsT t).length ≤ t.nodes := by
  have h1 := ascOf_len (atomKs (keysT t))
  have h2 := atomKs_len (keysT t)
  rw [keysT_len] at h2
  exact Nat.le_trans h1 h2
end Go.Proofs.YtbihnfocghcplaaGreatDoor
