/- FromSet: what it lays, and the program's own. -/
import Derived.Test.YtfiaoibfejginaaDoorZ4B
import Derived.Test.YtfiaoibfejginaaDoorG0I

namespace Go.Proofs.YtfiaoibfejginaaDoor
set_option linter.unusedVariables false
set_option linter.unusedSimpArgs false
open Go Go.RowKit Go.Sort

/-- The label of a node that a set gives. -/
def labOf (ps : List (Int × Int)) (set : List Int) (i : Nat) : Int :=
  if decide ((i : Int) ∈ set) = true then 1 else if (ps.any fun p => p.2 == (i : Int) && decide (p.1 ∈ set)) = true then 2 else 3
def fsR (N : Nat) (f : Nat → Int) : List Int := (List.range N).map f
def fsF (N : Nat) (ps : List (Int × Int)) (set : List Int) : List Int := fsR N (labOf ps set)
theorem fsR_len (N : Nat) (f : Nat → Int) : (fsR N f).length = N := by simp [fsR]
theorem fsR_get {N : Nat} {f : Nat → Int} {i : Nat} (h : i < (fsR N f).length) : (fsR N f)[i] = f i := by simp [fsR]
theorem fsR_congr {N : Nat} {f g : Nat → Int} (h : ∀ i, i < N → f i = g i) : fsR N f = fsR N g := by
  unfold fsR
  exact List.map_congr_left fun i hi => h i (List.mem_range.1 hi)
theorem fsR_set (N : Nat) (f : Nat → Int) (i : Nat) (v : Int) : (fsR N f).set i v = fsR N (fun j => if j = i then v else f j) := by
  apply List.ext_getElem
  · rw [List.length_set, fsR_len, fsR_len]
  · intro j h1 h2
    rw [List.getElem_set, fsR_get, fsR_get]
    by_cases e : i = j
    · rw [if_pos e, if_pos e.symm]
    · rw [if_neg e, if_neg (Ne.symm e)]
theorem fsF_len (N : Nat) (ps : List (Int × Int)) (set : List Int) : (fsF N ps set).length = N := fsR_len _ _
theorem fsF_get {N : Nat} {ps : List (Int × Int)} {set : List Int} {i : Nat} (h : i < (fsF N ps set).length) : (fsF N ps set)[i] = labOf ps set i := fsR_get h
theorem labOf_one {ps : List (Int × Int)} {set : List Int} {i : Nat} : labOf ps set i = 1 ↔ (i : Int) ∈ set := by
  unfold labOf
  by_cases h : (i : Int) ∈ set
  · simp [h]
  · rw [if_neg (by simpa using h)]
    split <;> simp [h]
theorem labOf_lab (ps : List (Int × Int)) (set : List Int) (i : Nat) : labOf ps set i = 1 ∨ labOf ps set i = 2 ∨ labOf ps set i = 3 := by
  unfold labOf
  split
  · exact .inl rfl
  · split
    · exact .inr (.inl rfl)
    · exact .inr (.inr rfl)
theorem fs_none (N : Nat) : List.replicate N 3 = fsF N [] [] := by
  apply List.ext_getElem
  · rw [List.length_replicate, fsF_len]
  · intro i h1 h2
    rw [List.getElem_replicate, fsF_get]
    simp [labOf]
theorem fs_in {N k : Nat} {set : List Int} (h : k < set.length) {i : Nat} (he : set[k] = (i : Int)) : fsF N [] (set.take (k + 1)) = (fsF N [] (set.take k)).set i 1 := by
  unfold fsF
  rw [fsR_set]
  apply fsR_congr
  intro j hj
  unfold labOf
  rw [List.take_succ_eq_append_getElem h, he]
  by_cases e : j = i
  · subst e; simp
  · rw [if_neg e]
    have : ((j : Int) ∈ List.take k set ++ [(i : Int)]) ↔ (j : Int) ∈ List.take k set := by
      rw [List.mem_append, List.mem_singleton]
      exact ⟨fun h => h.elim id (fun h => absurd h (by omega)), .inl⟩
    rw [decide_eq_decide.2 this]
    rfl
theorem fs_out {N k : Nat} {set : List Int} (h : k < set.length) (he : set[k] < 0 ∨ (N : Int) ≤ set[k]) : fsF N [] (set.take (k + 1)) = fsF N [] (set.take k) := by
  apply fsR_congr
  intro j hj
  unfold labOf
  rw [List.take_succ_eq_append_getElem h]
  have : ((j : Int) ∈ List.take k set ++ [set[k]]) ↔ (j : Int) ∈ List.take k set := by
    rw [List.mem_append, List.mem_singleton]
    exact ⟨fun h => h.elim id (fun h => absurd h (by omega)), .inl⟩
  rw [decide_eq_decide.2 this]
  rfl
theorem any_step {ps : List (Int × Int)} {k : Nat} (h : k < ps.length) (f : Int × Int → Bool) : (ps.take (k + 1)).any f = ((ps.take k).any f || f ps[k]) := by
  rw [List.take_succ_eq_append_getElem h, List.any_append]
  simp
theorem fs_hit {N k : Nat} {ps : List (Int × Int)} {set : List Int} (h : k < ps.length) {g s : Nat} (he : ps[k] = ((g : Int), (s : Int))) (hg : (g : Int) ∈ set) (hs : (s : Int) ∉ set) : fsF N (ps.take (k + 1)) set = (fsF N (ps.take k) set).set s 2 := by
  unfold fsF
  rw [fsR_set]
  apply fsR_congr
  intro j hj
  unfold labOf
  rw [any_step h, he]
  by_cases e : j = s
  · subst e
    simp [hg, hs]
  · rw [if_neg e]
    have : (((s : Int) == (j : Int)) && decide ((g : Int) ∈ set)) = false := by
      rw [beq_eq_false_iff_ne.2 (by omega)]; rfl
    simp only [this, Bool.or_false]
theorem fs_miss {N k : Nat} {ps : List (Int × Int)} {set : List Int} (h : k < ps.length) {g s : Nat} (he : ps[k] = ((g : Int), (s : Int))) (hn : ¬ ((g : Int) ∈ set ∧ (s : Int) ∉ set)) : fsF N (ps.take (k + 1)) set = fsF N (ps.take k) set := by
  apply fsR_congr
  intro j hj
  unfold labOf
  rw [any_step h, he]
  by_cases e : j = s
  · subst e
    by_cases hs : (j : Int) ∈ set
    · simp [hs]
    · have hg : (g : Int) ∉ set := fun hg => hn ⟨hg, hs⟩
      rw [decide_eq_false hg, Bool.and_false, Bool.or_false]
  · have : (((s : Int) == (j : Int)) && decide ((g : Int) ∈ set)) = false := by
      rw [beq_eq_false_iff_ne.2 (by omega)]; rfl
    simp only [this, Bool.or_false]

end Go.Proofs.YtfiaoibfejginaaDoor
