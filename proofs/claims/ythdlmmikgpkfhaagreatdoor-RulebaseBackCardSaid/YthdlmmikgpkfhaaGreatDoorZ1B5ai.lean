/- A list of literals is its own normal form just if it ascends. -/
import Derived.Test.YthdlmmikgpkfhaaGreatDoorZ1B5i

namespace Go.Proofs.YthdlmmikgpkfhaaGreatDoor
set_option linter.unusedVariables false
set_option linter.unusedSimpArgs false
open Go Go.RowKit Go.Sort

section
variable {α : Type} [DecidableEq α]
theorem compactUpTo_facts5 [Inhabited α] (R : α → α → Prop) (hR : ∀ a b, R a b → R b a → a = b) (d : Array α) (hp : ∀ i j, i < j → j < d.size → R d[i]! d[j]!) :
    ∀ m, m ≤ d.size → (Lib.compactUpTo d m).Nodup ∧ ∀ x, x ∈ Lib.compactUpTo d m ↔ ∃ j, j < m ∧ d[j]! = x := by
  intro m
  induction m with
  | zero => intro _; exact ⟨by simp [Lib.compactUpTo], fun x => by simp [Lib.compactUpTo]⟩
  | succ m ih =>
    intro hm
    obtain ⟨h1, h2⟩ := ih (by omega)
    rw [Lib.compactUpTo_succ]
    cases hk : Lib.keeps d m
    · have hneg : ¬ (m = 0 ∨ d[m]! ≠ d[m - 1]!) := by simpa [Lib.keeps] using hk
      have hm0 : 0 < m := by omega
      have he : d[m]! = d[m - 1]! := Classical.byContradiction fun e => hneg (.inr e)
      simp only [Bool.false_eq_true, if_false, List.append_nil]
      refine ⟨h1, fun x => (h2 x).trans ⟨fun ⟨j, hj, e⟩ => ⟨j, by omega, e⟩, fun ⟨j, hj, e⟩ => ?_⟩⟩
      by_cases hjm : j = m
      · subst hjm
        exact ⟨j - 1, by omega, by rw [← he]; exact e⟩
      · exact ⟨j, by omega, e⟩
    · have hpos : m = 0 ∨ d[m]! ≠ d[m - 1]! := by simpa [Lib.keeps] using hk
      simp only [if_true]
      have hnot : d[m]! ∉ Lib.compactUpTo d m := fun hmem => by
        obtain ⟨j, hj, e⟩ := (h2 _).1 hmem
        rcases hpos with h0 | hne
        · omega
        · by_cases hjm : j = m - 1
          · subst hjm; exact hne e.symm
          · have r1 := hp j (m - 1) (by omega) (by omega)
            have r2 := hp (m - 1) m (by omega) (by omega)
            rw [← e] at r2
            have := hR _ _ r1 r2
            exact hne (by rw [← e, this])
      refine ⟨?_, fun x => ?_⟩
      · rw [List.nodup_append]
        refine ⟨h1, by simp, fun a ha b hb => ?_⟩
        rw [List.mem_singleton] at hb
        subst hb
        exact fun e => hnot (e ▸ ha)
      · rw [List.mem_append, List.mem_singleton, h2 x]
        constructor
        · rintro (⟨j, hj, e⟩ | e)
          · exact ⟨j, by omega, e⟩
          · exact ⟨m, by omega, e.symm⟩
        · rintro ⟨j, hj, e⟩
          by_cases hjm : j = m
          · subst hjm; exact .inr e.symm
          · exact .inl ⟨j, by omega, e⟩

theorem compact_facts5 [Inhabited α] (R : α → α → Prop) (hR : ∀ a b, R a b → R b a → a = b) (l : List α) (hp : l.Pairwise R) :
    (Lib.compactUpTo l.toArray l.toArray.size).Nodup ∧ ∀ x, x ∈ Lib.compactUpTo l.toArray l.toArray.size ↔ x ∈ l := by
  have h := compactUpTo_facts5 R hR l.toArray (fun i j hij hj => by
    have hj' : j < l.length := by simpa using hj
    rw [List.getElem!_toArray, List.getElem!_toArray, getElem!_pos l i (by omega), getElem!_pos l j hj']
    exact List.pairwise_iff_getElem.1 hp i j (by omega) hj' hij) l.toArray.size (Nat.le_refl _)
  refine ⟨h.1, fun x => (h.2 x).trans ⟨fun ⟨j, hj, e⟩ => ?_, fun hx => ?_⟩⟩
  · have hj' : j < l.length := by simpa using hj
    rw [List.getElem!_toArray, getElem!_pos l j hj'] at e
    rw [← e]; exact List.getElem_mem hj'
  · obtain ⟨j, hj, e⟩ := List.getElem_of_mem hx
    exact ⟨j, by simpa using hj, by rw [List.getElem!_toArray, getElem!_pos l j hj]; exact e⟩
end

theorem nrm_facts5 (xs : List Lt) : (nrm xs).Nodup ∧ ∀ x, x ∈ nrm xs ↔ x ∈ xs := by
  have h := compact_facts5 (fun a b : Lt => (!ltOf cmpI b a) = true) (fun a b h1 h2 => by
    simp only [Bool.not_eq_true'] at h1 h2
    exact lt_total a b h2 h1) (srt xs) (srt_pair xs)
  exact ⟨h.1, fun x => (h.2 x).trans (List.mergeSort_perm xs _).mem_iff⟩

theorem compactUpTo_sub5 (d : Array Lt) (m : Nat) (hm : m ≤ d.size) : (Lib.compactUpTo d m).Sublist (d.toList.take m) := by
  unfold Lib.compactUpTo
  have e : d.toList.take m = (List.range m).map (d[·]!) := by
    apply List.ext_getElem
    · simp; omega
    · intro i h1 h2
      have hi : i < m := by simpa using h2
      simp only [List.getElem_take, List.getElem_map, List.getElem_range, Array.getElem_toList]
      rw [getElem!_pos d i (by omega)]
  rw [e]
  exact List.filter_sublist.map _

theorem nrm_pair5 (zs : List Lt) : (nrm zs).Pairwise fun a b => (!ltOf cmpI b a) = true := by
  have h := compactUpTo_sub5 (srt zs).toArray _ (Nat.le_refl _)
  have h2 : ((srt zs).toArray.toList.take (srt zs).toArray.size) = srt zs := by simp
  rw [h2] at h
  exact (srt_pair zs).sublist h

theorem nrm_self (xs : List Lt) : xs = nrm xs ↔ xs.Pairwise fun a b => ltOf cmpI a b = true := by
  obtain ⟨n1, m1⟩ := nrm_facts5 xs
  have hp := nrm_pair5 xs
  constructor
  · intro h
    rw [← h] at n1 hp
    have n2 : xs.Pairwise fun a b => a ≠ b := n1
    refine (hp.and n2).imp fun {a b} hh => ?_
    obtain ⟨hab, hne⟩ := hh
    cases hlt : ltOf cmpI a b
    · exact absurd (lt_total a b hlt (by simpa using hab)) hne
    · rfl
  · intro h
    have hle : xs.Pairwise fun a b => (!ltOf cmpI b a) = true := h.imp fun {a b} hab => by
      cases k : ltOf cmpI b a
      · rfl
      · have := swo.trans a b a hab k
        rw [swo.irrefl] at this
        cases this
    have hnd : xs.Nodup := h.imp fun {a b} hab e => by
      subst e
      rw [swo.irrefl] at hab
      cases hab
    exact List.Perm.eq_of_pairwise (le := fun a b => (!ltOf cmpI b a) = true) (fun a b _ _ h1 h2 => by
      simp only [Bool.not_eq_true'] at h1 h2
      exact lt_total a b h2 h1) hle hp ((List.perm_ext_iff_of_nodup hnd n1).2 (fun x => (m1 x).symm))

/-- The same error of a rule, and of a base, with the body's order asked for as it stands. -/
def ruleE5 (b : Bs) (r : Ru) (i : Nat) : Int := if 4 < r.body.length then 2 else if ruleB r = false then 1 else if decide (r.body.Pairwise fun a b => ltOf cmpI a b = true) = false then 8 else if posI (hasName r.name) b.rules < (i : Int) then 5 else 0
theorem ruleE5_eq (b : Bs) (r : Ru) (i : Nat) : ruleE b r i = ruleE5 b r i := by
  unfold ruleE ruleE5
  rw [decide_eq_decide.2 (nrm_self r.body)]
def ruleF5 (b : Bs) (i : Nat) : Int := if h : i < b.rules.length then ruleE5 b b.rules[i] i else 0
def baseE5 (b : Bs) : Int :=
  if 16 < b.prems.length ∨ 24 < b.rules.length ∨ 8 < b.proms.length then 2
  else if errUp (premF b) b.prems.length ≠ 0 then errUp (premF b) b.prems.length
  else if errUp (ruleF5 b) b.rules.length ≠ 0 then errUp (ruleF5 b) b.rules.length
  else errUp (promF b) b.proms.length
theorem baseE5_eq (b : Bs) : baseE b = baseE5 b := by
  have h : ruleF b = ruleF5 b := by
    funext i
    unfold ruleF ruleF5
    simp only [ruleE5_eq]
  unfold baseE baseE5
  rw [h]
end Go.Proofs.YthdlmmikgpkfhaaGreatDoor
