/- The plain mathematics of pairs of numbers: their order, the list in order and each once, and the list as the reference tells it. -/
import Derived.RowKit
import Derived.Sort.Grow
import Derived.Shelf.GgSortFunc.RowK
import Derived.Lib.SlicesCompact
import Derived.Shelf.SlSortCmp.Insertion
namespace Go.Proofs.YtfiaoibfejginaaDoor
set_option linter.unusedVariables false
set_option linter.unusedSimpArgs false
open Go.RowKit Go.Sort

/-- Less than, equal, greater: by the first number and then the second one. -/
def cmpP (x y : Int × Int) : Int :=
  if x.1 < y.1 then -1 else if y.1 < x.1 then 1 else if x.2 < y.2 then -1 else if y.2 < x.2 then 1 else 0

theorem lt_iff (x y : Int × Int) : ltOf cmpP x y = true ↔ x.1 < y.1 ∨ x.1 = y.1 ∧ x.2 < y.2 := by
  have h : ltOf cmpP x y = true ↔ cmpP x y < 0 := by unfold ltOf; exact decide_eq_true_iff
  rw [h]
  unfold cmpP
  by_cases h1 : x.1 < y.1
  · rw [if_pos h1]; omega
  · rw [if_neg h1]
    by_cases h2 : y.1 < x.1
    · rw [if_pos h2]; omega
    · rw [if_neg h2]
      by_cases h3 : x.2 < y.2
      · rw [if_pos h3]; omega
      · rw [if_neg h3]
        by_cases h4 : y.2 < x.2
        · rw [if_pos h4]; omega
        · rw [if_neg h4]; omega
theorem lt_not (x y : Int × Int) : ltOf cmpP x y = false ↔ ¬ (x.1 < y.1 ∨ x.1 = y.1 ∧ x.2 < y.2) := by
  rw [← lt_iff]
  cases ltOf cmpP x y <;> simp

theorem swo : Sort.SWO (ltOf cmpP) where
  irrefl x := by rw [lt_not]; omega
  trans x y z h k := by
    rw [lt_iff] at *
    omega
  ntrans x y z h k := by
    rw [lt_not] at *
    omega

theorem lt_total (x y : Int × Int) (h : ltOf cmpP x y = false) (k : ltOf cmpP y x = false) : x = y := by
  rw [lt_not] at *
  obtain ⟨a, b⟩ := x
  obtain ⟨c, d⟩ := y
  simp only [Prod.mk.injEq] at *
  omega

theorem compactUpTo_facts {α : Type} [DecidableEq α] [Inhabited α] (R : α → α → Prop) (hR : ∀ a b, R a b → R b a → a = b) (d : Array α) (hp : ∀ i j, i < j → j < d.size → R d[i]! d[j]!) :
    ∀ m, m ≤ d.size → (Lib.compactUpTo d m).Nodup ∧ ∀ x, x ∈ Lib.compactUpTo d m ↔ ∃ j, j < m ∧ d[j]! = x := by
  intro m
  induction m with
  | zero => intro _; exact ⟨by simp [Lib.compactUpTo], fun x => by simp [Lib.compactUpTo]⟩
  | succ m ih =>
    intro hm
    obtain ⟨h1, h2⟩ := ih (by omega)
    rw [Lib.compactUpTo_succ]
    cases hk : Lib.keeps d m
    · have hneg : ¬ (m = 0 ∨ d[m]! ≠ d[m - 1]!) := by simpa [Lib.keeps] using hk
      have hm0 : 0 < m := by omega
      have he : d[m]! = d[m - 1]! := Classical.byContradiction fun e => hneg (.inr e)
      simp only [Bool.false_eq_true, if_false, List.append_nil]
      refine ⟨h1, fun x => (h2 x).trans ⟨fun ⟨j, hj, e⟩ => ⟨j, by omega, e⟩, fun ⟨j, hj, e⟩ => ?_⟩⟩
      by_cases hjm : j = m
      · subst hjm
        exact ⟨j - 1, by omega, by rw [← he]; exact e⟩
      · exact ⟨j, by omega, e⟩
    · have hpos : m = 0 ∨ d[m]! ≠ d[m - 1]! := by simpa [Lib.keeps] using hk
      simp only [if_true]
      have hnot : d[m]! ∉ Lib.compactUpTo d m := fun hmem => by
        obtain ⟨j, hj, e⟩ := (h2 _).1 hmem
        rcases hpos with h0 | hne
        · omega
        · by_cases hjm : j = m - 1
          · subst hjm; exact hne e.symm
          · have r1 := hp j (m - 1) (by omega) (by omega)
            have r2 := hp (m - 1) m (by omega) (by omega)
            rw [← e] at r2
            have := hR _ _ r1 r2
            exact hne (by rw [← e, this])
      refine ⟨?_, fun x => ?_⟩
      · rw [List.nodup_append]
        refine ⟨h1, by simp, fun a ha b hb => ?_⟩
        rw [List.mem_singleton] at hb
        rintro rfl
        exact hnot (hb ▸ ha)
      · rw [List.mem_append, List.mem_singleton, h2]
        constructor
        · rintro (⟨j, hj, e⟩ | e)
          · exact ⟨j, by omega, e⟩
          · exact ⟨m, by omega, e.symm⟩
        · rintro ⟨j, hj, e⟩
          by_cases hjm : j = m
          · subst hjm; exact .inr e.symm
          · exact .inl ⟨j, by omega, e⟩

/-- The list sorted. -/
def srt (xs : List (Int × Int)) : List (Int × Int) := xs.mergeSort fun x y => !(ltOf cmpP) y x
/-- What a row holds behind Compact. -/
def cpt (d : Array (Int × Int)) : List (Int × Int) := Lib.compactUpTo d d.size
/-- The list in ascending order, each once. -/
def nrm (xs : List (Int × Int)) : List (Int × Int) := cpt (srt xs).toArray

theorem srt_pair (xs : List (Int × Int)) : (srt xs).Pairwise fun a b => (!ltOf cmpP b a) = true :=
  List.pairwise_mergeSort (fun a b c h k => by
    simp only [Bool.not_eq_true'] at *
    exact swo.ntrans c b a k h) (fun a b => by
    cases h : ltOf cmpP b a
    · simp
    · have : ltOf cmpP a b = false := by
        cases k : ltOf cmpP a b
        · rfl
        · have := swo.trans a b a k h
          rw [swo.irrefl] at this
          cases this
      simp [this]) xs
theorem srt_len (xs : List (Int × Int)) : (srt xs).length = xs.length := (List.mergeSort_perm _ _).length_eq

theorem compactUpTo_sub (d : Array (Int × Int)) (m : Nat) (hm : m ≤ d.size) : (Lib.compactUpTo d m).Sublist (d.toList.take m) := by
  unfold Lib.compactUpTo
  have e : d.toList.take m = (List.range m).map (d[·]!) := by
    apply List.ext_getElem
    · simp; omega
    · intro i h1 h2
      have hi : i < m := by simpa using h2
      simp only [List.getElem_take, List.getElem_map, List.getElem_range, Array.getElem_toList]
      rw [getElem!_pos d i (by omega)]
  rw [e]
  exact List.filter_sublist.map _

theorem nrm_pair (zs : List (Int × Int)) : (nrm zs).Pairwise fun a b => (!ltOf cmpP b a) = true := by
  have h := compactUpTo_sub (srt zs).toArray _ (Nat.le_refl _)
  have h2 : ((srt zs).toArray.toList.take (srt zs).toArray.size) = srt zs := by simp
  rw [h2] at h
  exact (srt_pair zs).sublist h

theorem nrm_facts (xs : List (Int × Int)) : (nrm xs).Nodup ∧ ∀ x, x ∈ nrm xs ↔ x ∈ xs := by
  have hp := srt_pair xs
  rw [List.pairwise_iff_getElem] at hp
  obtain ⟨h1, h2⟩ := compactUpTo_facts (fun a b : Int × Int => ltOf cmpP b a = false) (fun a b h k => lt_total a b k h) (srt xs).toArray (fun i j hij hj => by
    have hj' : j < (srt xs).length := by simpa using hj
    have := hp i j (by omega) hj' hij
    simp only [List.getElem!_toArray]
    rw [getElem!_pos (srt xs) i (by omega), getElem!_pos (srt xs) j hj']
    simpa using this) (srt xs).toArray.size (Nat.le_refl _)
  refine ⟨h1, fun x => (h2 x).trans ?_⟩
  rw [← (List.mergeSort_perm xs fun x y => !(ltOf cmpP) y x).mem_iff]
  show _ ↔ x ∈ srt xs
  constructor
  · rintro ⟨j, hj, rfl⟩
    have hj' : j < (srt xs).length := by simpa using hj
    rw [List.getElem!_toArray, getElem!_pos (srt xs) j hj']
    exact List.getElem_mem hj'
  · intro hx
    obtain ⟨j, hj, rfl⟩ := List.getElem_of_mem hx
    exact ⟨j, by simpa using hj, by rw [List.getElem!_toArray, getElem!_pos (srt xs) j hj]⟩

/-- The pairs of a list with this first number and a second one below t, in ascending order. -/
def rowP (l : List (Int × Int)) (f t : Nat) : List (Int × Int) := (List.range t).flatMap fun (b : Nat) => if ((f : Int), (b : Int)) ∈ l then [((f : Int), (b : Int))] else []
/-- The pairs of a list below (f, t), in ascending order, where numbers go up to n. -/
def refP (n : Nat) (l : List (Int × Int)) (f t : Nat) : List (Int × Int) := ((List.range f).flatMap fun a => rowP l a n) ++ rowP l f t

theorem rowP_succ (l : List (Int × Int)) (f t : Nat) : rowP l f (t + 1) = rowP l f t ++ if ((f : Int), (t : Int)) ∈ l then [((f : Int), (t : Int))] else [] := by
  rw [rowP, List.range_succ, List.flatMap_append]
  simp [rowP]
theorem refP_zero (n : Nat) (l : List (Int × Int)) : refP n l 0 0 = [] := rfl
theorem refP_to (n : Nat) (l : List (Int × Int)) (f t : Nat) : refP n l f (t + 1) = refP n l f t ++ if ((f : Int), (t : Int)) ∈ l then [((f : Int), (t : Int))] else [] := by
  rw [refP, rowP_succ, ← List.append_assoc]; rfl
theorem refP_from (n : Nat) (l : List (Int × Int)) (f : Nat) : refP n l (f + 1) 0 = refP n l f n := by
  rw [refP, List.range_succ, List.flatMap_append]
  simp [refP, rowP]
theorem refP_len (n : Nat) (l : List (Int × Int)) : ∀ f t, t ≤ n → (refP n l f t).length ≤ f * n + t := by
  have hrow : ∀ f t, (rowP l f t).length ≤ t := by
    intro f t
    induction t with
    | zero => simp [rowP]
    | succ t ih =>
      rw [rowP_succ, List.length_append]
      split <;> simp <;> omega
  intro f
  induction f with
  | zero => intro t ht; simpa [refP] using hrow 0 t
  | succ f ih =>
    intro t ht
    have h1 := ih n (Nat.le_refl _)
    have h2 := hrow (f + 1) t
    have e : refP n l (f + 1) t = refP n l f n ++ rowP l (f + 1) t := by
      rw [← refP_from]
      simp [refP, rowP]
    rw [e, List.length_append, Nat.succ_mul]
    omega

theorem mem_rowP {l : List (Int × Int)} {f t : Nat} {x : Int × Int} : x ∈ rowP l f t ↔ x ∈ l ∧ x.1 = (f : Int) ∧ 0 ≤ x.2 ∧ x.2 < (t : Int) := by
  simp only [rowP, List.mem_flatMap, List.mem_range]
  constructor
  · rintro ⟨b, hb, hx⟩
    split at hx
    · rename_i hm
      rw [List.mem_singleton] at hx
      subst hx
      exact ⟨hm, rfl, by simp, by simp; omega⟩
    · cases hx
  · rintro ⟨hm, h1, h2, h3⟩
    obtain ⟨a, c⟩ := x
    simp only at h1 h2 h3
    subst h1
    obtain ⟨b, rfl⟩ : ∃ b : Nat, c = (b : Int) := ⟨c.toNat, by omega⟩
    exact ⟨b, by omega, by rw [if_pos hm]; exact List.mem_singleton.2 rfl⟩

theorem rowP_pair (l : List (Int × Int)) (f t : Nat) : (rowP l f t).Pairwise fun a b => ltOf cmpP a b = true := by
  induction t with
  | zero => simp [rowP]
  | succ t ih =>
    rw [rowP_succ]
    split
    · rw [List.pairwise_append]
      refine ⟨ih, by simp, fun a ha b hb => ?_⟩
      rw [List.mem_singleton] at hb
      subst hb
      obtain ⟨-, h1, -, h3⟩ := mem_rowP.1 ha
      rw [lt_iff]
      exact .inr ⟨h1, h3⟩
    · simpa using ih

theorem full_pair (n : Nat) (l : List (Int × Int)) (f : Nat) : ((List.range f).flatMap fun a => rowP l a n).Pairwise fun a b => ltOf cmpP a b = true := by
  induction f with
  | zero => simp
  | succ f ih =>
    rw [List.range_succ, List.flatMap_append, List.pairwise_append]
    refine ⟨ih, by simpa using rowP_pair l f n, fun a ha b hb => ?_⟩
    rw [List.mem_flatMap] at ha
    obtain ⟨c, hc, ha⟩ := ha
    have h1 := (mem_rowP.1 ha).2.1
    have h2 := (mem_rowP.1 (by simpa using hb : b ∈ rowP l f n)).2.1
    rw [lt_iff]
    have := List.mem_range.1 hc
    omega

/-- Sorted and each once: the same as listing all pairs below n that are there. -/
theorem nrm_ref (n : Nat) (l : List (Int × Int)) (h : ∀ x ∈ l, (0 ≤ x.1 ∧ x.1 < (n : Int)) ∧ 0 ≤ x.2 ∧ x.2 < (n : Int)) : nrm l = refP n l n 0 := by
  have e : refP n l n 0 = (List.range n).flatMap fun a => rowP l a n := by simp [refP, rowP]
  rw [e]
  obtain ⟨n1, m1⟩ := nrm_facts l
  have hp := full_pair n l n
  have n2 : ((List.range n).flatMap fun a => rowP l a n).Nodup := hp.imp (fun {a b} hlt e => by
    subst e
    rw [swo.irrefl] at hlt
    cases hlt)
  refine List.Perm.eq_of_pairwise (le := fun a b => (!ltOf cmpP b a) = true) (fun a b _ _ h1 h2 => by
    simp only [Bool.not_eq_true'] at h1 h2
    exact lt_total a b h2 h1) (nrm_pair l) (hp.imp fun {a b} hlt => ?_) ((List.perm_ext_iff_of_nodup n1 n2).2 fun x => (m1 x).trans ?_)
  · cases k : ltOf cmpP b a
    · rfl
    · have := swo.trans a b a hlt k
      rw [swo.irrefl] at this
      cases this
  · rw [List.mem_flatMap]
    constructor
    · intro hx
      obtain ⟨⟨h1, h2⟩, h3, h4⟩ := h x hx
      exact ⟨x.1.toNat, by rw [List.mem_range]; omega, mem_rowP.2 ⟨hx, by omega, h3, h4⟩⟩
    · rintro ⟨c, hc, hx⟩
      exact (mem_rowP.1 hx).1
theorem nrm_len (l : List (Int × Int)) : (nrm l).length ≤ l.length := by
  have h := (compactUpTo_sub (srt l).toArray _ (Nat.le_refl _)).length_le
  have h2 : ((srt l).toArray.toList.take (srt l).toArray.size) = srt l := by simp
  rw [h2, srt_len] at h
  exact h
end Go.Proofs.YtfiaoibfejginaaDoor
