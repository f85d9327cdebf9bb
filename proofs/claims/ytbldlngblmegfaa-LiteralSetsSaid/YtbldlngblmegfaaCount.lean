/- The plain mathematics of counting: a sorted list, each once, holds each element once; a list of literals is consistent just if it has as many names as different literals. -/
import Derived.Test.YtbldlngblmegfaaConsW
import Derived.Test.YtbldlngblmegfaaNames
namespace Go.Proofs.Ytbldlngblmegfaa
open Go.RowKit Go.Sort

section
variable {α : Type} [DecidableEq α]
theorem nodup_le : ∀ (N M : List α), N.Nodup → (∀ x ∈ N, x ∈ M) → N.length ≤ M.length
  | [], M, _, _ => Nat.zero_le _
  | a :: N, M, hn, hs => by
    rw [List.nodup_cons] at hn
    have ha := hs a (by simp)
    have h1 := nodup_le N (M.erase a) hn.2 (fun x hx => by
      have hne : x ≠ a := fun e => hn.1 (e ▸ hx)
      rw [List.mem_erase_of_ne hne]
      exact hs x (by simp [hx]))
    rw [List.length_erase_of_mem ha] at h1
    have h2 : 0 < M.length := List.length_pos_of_mem ha
    simp only [List.length_cons]
    omega

theorem nodup_of_length : ∀ (M N : List α), N.Nodup → (∀ x ∈ N, x ∈ M) → (∀ x ∈ M, x ∈ N) → M.length ≤ N.length → M.Nodup
  | [], _, _, _, _, _ => List.nodup_nil
  | a :: M, N, hn, h1, h2, hl => by
    rw [List.nodup_cons]
    have hna : a ∉ M := fun ha => by
      have := nodup_le N M hn (fun x hx => by
        rcases List.mem_cons.1 (h1 x hx) with e | e
        · rw [e]; exact ha
        · exact e)
      simp only [List.length_cons] at hl
      omega
    refine ⟨hna, ?_⟩
    have haN := h2 a (by simp)
    refine nodup_of_length M (N.erase a) (hn.erase a) (fun x hx => ?_) (fun x hx => ?_) ?_
    · rcases List.mem_cons.1 (h1 x (List.mem_of_mem_erase hx)) with e | e
      · subst e
        exact absurd hx (by rw [List.Nodup.mem_erase_iff hn]; simp)
      · exact e
    · have hne : x ≠ a := fun e => hna (e ▸ hx)
      rw [List.mem_erase_of_ne hne]
      exact h2 x (by simp [hx])
    · rw [List.length_erase_of_mem haN]
      simp only [List.length_cons] at hl
      omega

theorem compactUpTo_facts [Inhabited α] (R : α → α → Prop) (hR : ∀ a b, R a b → R b a → a = b) (d : Array α) (hp : ∀ i j, i < j → j < d.size → R d[i]! d[j]!) :
    ∀ m, m ≤ d.size → (Lib.compactUpTo d m).Nodup ∧ ∀ x, x ∈ Lib.compactUpTo d m ↔ ∃ j, j < m ∧ d[j]! = x := by
  intro m
  induction m with
  | zero => intro _; exact ⟨by simp [Lib.compactUpTo], fun x => by simp [Lib.compactUpTo]⟩
  | succ m ih =>
    intro hm
    obtain ⟨h1, h2⟩ := ih (by omega)
    rw [Lib.compactUpTo_succ]
    cases hk : Lib.keeps d m
    · have hneg : ¬ (m = 0 ∨ d[m]! ≠ d[m - 1]!) := by simpa [Lib.keeps] using hk
      have hm0 : 0 < m := by omega
      have he : d[m]! = d[m - 1]! := Classical.byContradiction fun e => hneg (.inr e)
      simp only [Bool.false_eq_true, if_false, List.append_nil]
      refine ⟨h1, fun x => (h2 x).trans ⟨fun ⟨j, hj, e⟩ => ⟨j, by omega, e⟩, fun ⟨j, hj, e⟩ => ?_⟩⟩
      by_cases hjm : j = m
      · subst hjm
        exact ⟨j - 1, by omega, by rw [← he]; exact e⟩
      · exact ⟨j, by omega, e⟩
    · have hpos : m = 0 ∨ d[m]! ≠ d[m - 1]! := by simpa [Lib.keeps] using hk
      simp only [if_true]
      have hnot : d[m]! ∉ Lib.compactUpTo d m := fun hmem => by
        obtain ⟨j, hj, e⟩ := (h2 _).1 hmem
        rcases hpos with h0 | hne
        · omega
        · by_cases hjm : j = m - 1
          · subst hjm; exact hne e.symm
          · have r1 := hp j (m - 1) (by omega) (by omega)
            have r2 := hp (m - 1) m (by omega) (by omega)
            rw [← e] at r2
            have := hR _ _ r1 r2
            exact hne (by rw [← e, this])
      refine ⟨?_, fun x => ?_⟩
      · rw [List.nodup_append]
        refine ⟨h1, by simp, fun a ha b hb => ?_⟩
        rw [List.mem_singleton] at hb
        subst hb
        exact fun e => hnot (e ▸ ha)
      · rw [List.mem_append, List.mem_singleton, h2 x]
        constructor
        · rintro (⟨j, hj, e⟩ | e)
          · exact ⟨j, by omega, e⟩
          · exact ⟨m, by omega, e.symm⟩
        · rintro ⟨j, hj, e⟩
          by_cases hjm : j = m
          · subst hjm; exact .inr e.symm
          · exact .inl ⟨j, by omega, e⟩

theorem compact_facts [Inhabited α] (R : α → α → Prop) (hR : ∀ a b, R a b → R b a → a = b) (l : List α) (hp : l.Pairwise R) :
    (Lib.compactUpTo l.toArray l.toArray.size).Nodup ∧ ∀ x, x ∈ Lib.compactUpTo l.toArray l.toArray.size ↔ x ∈ l := by
  have h := compactUpTo_facts R hR l.toArray (fun i j hij hj => by
    have hj' : j < l.length := by simpa using hj
    rw [List.getElem!_toArray, List.getElem!_toArray, getElem!_pos l i (by omega), getElem!_pos l j hj']
    exact List.pairwise_iff_getElem.1 hp i j (by omega) hj' hij) l.toArray.size (Nat.le_refl _)
  refine ⟨h.1, fun x => (h.2 x).trans ⟨fun ⟨j, hj, e⟩ => ?_, fun hx => ?_⟩⟩
  · have hj' : j < l.length := by simpa using hj
    rw [List.getElem!_toArray, getElem!_pos l j hj'] at e
    rw [← e]; exact List.getElem_mem hj'
  · obtain ⟨j, hj, e⟩ := List.getElem_of_mem hx
    exact ⟨j, by simpa using hj, by rw [List.getElem!_toArray, getElem!_pos l j hj]; exact e⟩
end

theorem nrm_facts (xs : List Lt) : (nrm xs).Nodup ∧ ∀ x, x ∈ nrm xs ↔ x ∈ xs := by
  have h := compact_facts (fun a b : Lt => (!ltOf cmpI b a) = true) (fun a b h1 h2 => by
    simp only [Bool.not_eq_true'] at h1 h2
    exact lt_total a b h2 h1) (srt xs) (srt_pair xs)
  exact ⟨h.1, fun x => (h.2 x).trans (List.mergeSort_perm xs _).mem_iff⟩

theorem names_facts (xs : List Lt) : ∃ N : List (List UInt8), N.length = nameCount xs ∧ N.Nodup ∧ ∀ s, s ∈ N ↔ s ∈ xs.map nmL := by
  have hs : ((xs.map nmL).mergeSort fun x y => decide (x ≤ y)).Pairwise fun a b => a ≤ b := by
    have := List.pairwise_mergeSort (le := fun x y : List UInt8 => decide (x ≤ y)) (fun a b c h k => by
      simp only [decide_eq_true_eq] at *
      exact List.le_trans h k) (fun a b => by
      simp only [Bool.or_eq_true, decide_eq_true_eq]
      exact List.le_total a b) (xs.map nmL)
    exact this.imp (fun h => by simpa using h)
  have h := compact_facts (fun a b : List UInt8 => a ≤ b) (fun a b h1 h2 => List.le_antisymm h1 h2) _ hs
  refine ⟨_, rfl, ?_, fun s => ?_⟩
  · exact h.1
  · exact (h.2 s).trans (List.mergeSort_perm _ _).mem_iff

theorem comp_comp (x : Lt) : comp (comp x) = x := by
  obtain ⟨g, s⟩ := x
  simp [comp]
theorem comp_ne (x : Lt) : comp x ≠ x := by
  obtain ⟨g, s⟩ := x
  cases g <;> simp [comp]

theorem consUpto_iff (xs : List Lt) (k : Nat) (hk : k ≤ xs.length) : consUpto xs k = true ↔ ∀ i j, i < k → j < i → comp xs[i]! ≠ xs[j]! := by
  induction k with
  | zero => simp [consUpto]
  | succ k ih =>
    simp only [consUpto, Bool.and_eq_true, Bool.not_eq_true', decide_eq_false_iff_not, ih (by omega)]
    constructor
    · rintro ⟨h1, h2⟩ i j hi hj
      by_cases e : i = k
      · subst e
        intro e2
        apply h2
        rw [e2, getElem!_pos xs j (by omega)]
        exact List.mem_take_iff_getElem.2 ⟨j, by omega, rfl⟩
      · exact h1 i j (by omega) hj
    · intro h
      refine ⟨fun i j hi hj => h i j (by omega) hj, fun hm => ?_⟩
      obtain ⟨j, hj, e⟩ := List.mem_take_iff_getElem.1 hm
      exact h k j (by omega) (by omega) (by rw [getElem!_pos xs j (by omega)]; exact e.symm)

theorem consB_iff (xs : List Lt) : consB xs = true ↔ ∀ x ∈ xs, comp x ∉ xs := by
  rw [consB, consUpto_iff xs _ (Nat.le_refl _)]
  constructor
  · intro h x hx hc
    obtain ⟨i, hi, ei⟩ := List.getElem_of_mem hx
    obtain ⟨j, hj, ej⟩ := List.getElem_of_mem hc
    rcases Nat.lt_trichotomy i j with hij | hij | hij
    · refine h j i hj hij ?_
      rw [getElem!_pos xs j hj, getElem!_pos xs i hi, ej, ei, comp_comp]
    · subst hij
      exact comp_ne x (by rw [← ej, ← ei])
    · refine h i j hi hij ?_
      rw [getElem!_pos xs j hj, getElem!_pos xs i hi, ej, ei]
  · intro h i j hi hj e
    rw [getElem!_pos xs i hi, getElem!_pos xs j (by omega)] at e
    exact h xs[i] (List.getElem_mem hi) (by rw [e]; exact List.getElem_mem _)

theorem consB_part (xs part : List Lt) (h : ∀ x ∈ part, x ∈ xs) (hc : consB xs = true) : consB part = true := by
  rw [consB_iff] at *
  exact fun x hx hc' => hc x (h x hx) (h _ hc')

theorem same_name {x y : Lt} (h : nmL x = nmL y) : x = y ∨ y = comp x := by
  obtain ⟨g, s⟩ := x
  obtain ⟨g', s'⟩ := y
  have := bytes_eq h
  simp only at this
  subst this
  cases g <;> cases g' <;> simp [comp]

theorem cons_count (xs : List Lt) : consB xs = (nameCount xs == (nrm xs).length) := by
  obtain ⟨h1, h2⟩ := nrm_facts xs
  obtain ⟨N, hN, n1, n2⟩ := names_facts xs
  have hmap : ∀ s, s ∈ (nrm xs).map nmL ↔ s ∈ N := fun s => by
    rw [n2, List.mem_map, List.mem_map]
    exact ⟨fun ⟨x, hx, e⟩ => ⟨x, (h2 x).1 hx, e⟩, fun ⟨x, hx, e⟩ => ⟨x, (h2 x).2 hx, e⟩⟩
  have hle : N.length ≤ (nrm xs).length := by
    have := nodup_le N ((nrm xs).map nmL) n1 (fun s hs => (hmap s).2 hs)
    rwa [List.length_map] at this
  rw [Bool.eq_iff_iff, consB_iff, beq_iff_eq, ← hN]
  constructor
  · intro hc
    have hnd : ((nrm xs).map nmL).Nodup := by
      rw [List.nodup_iff_pairwise_ne, List.pairwise_map]
      refine List.Pairwise.imp_of_mem ?_ (List.nodup_iff_pairwise_ne.1 h1)
      intro a b ha hb hne e
      rcases same_name e with h | h
      · exact hne h
      · exact hc a ((h2 a).1 ha) (by rw [← h]; exact (h2 b).1 hb)
    have := nodup_le ((nrm xs).map nmL) N hnd (fun s hs => (hmap s).1 hs)
    rw [List.length_map] at this
    omega
  · intro hl x hx hcx
    have hnd := nodup_of_length ((nrm xs).map nmL) N n1 (fun s hs => (hmap s).2 hs) (fun s hs => (hmap s).1 hs) (by rw [List.length_map]; omega)
    rw [List.nodup_iff_pairwise_ne, List.pairwise_map] at hnd
    obtain ⟨i, hi, ei⟩ := List.getElem_of_mem ((h2 x).2 hx)
    obtain ⟨j, hj, ej⟩ := List.getElem_of_mem ((h2 _).2 hcx)
    have hpw := List.pairwise_iff_getElem.1 hnd
    rcases Nat.lt_trichotomy i j with hij | hij | hij
    · exact hpw i j hi hj hij (by rw [ei, ej]; rfl)
    · subst hij
      exact comp_ne x (by rw [← ej, ← ei])
    · exact hpw j i hj hi hij (by rw [ei, ej]; rfl)
end Go.Proofs.Ytbldlngblmegfaa
