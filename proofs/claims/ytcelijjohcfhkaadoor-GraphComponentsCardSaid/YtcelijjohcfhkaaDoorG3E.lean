/- A graph turned round twice; attackers and attacked nodes, ways, components of a graph turned round, as the law asks. -/
import Derived.Test.YtcelijjohcfhkaaDoorG3D
import Derived.Test.YtcelijjohcfhkaaDoorG1M
import Derived.Test.YtcelijjohcfhkaaDoorG1H
namespace Go.Proofs.YtcelijjohcfhkaaDoor
set_option linter.unusedVariables false
set_option linter.unusedSimpArgs false
open Go Go.RowKit Go.Sort

theorem geP_iff {a b : Int × Int} : geP a b = false ↔ a.1 < b.1 ∨ a.1 = b.1 ∧ a.2 < b.2 := by
  unfold geP
  rw [decide_eq_false_iff_not]
  omega
theorem pairs_ext : ∀ (l m : List (Int × Int)), (l.Pairwise fun a b => geP a b = false) → (m.Pairwise fun a b => geP a b = false) → (∀ x, x ∈ l ↔ x ∈ m) → l = m
  | [], [], _, _, _ => rfl
  | [], y :: m, _, _, h => by have := (h y).2 (List.mem_cons_self ..); cases this
  | x :: l, [], _, _, h => by have := (h x).1 (List.mem_cons_self ..); cases this
  | x :: l, y :: m, hl, hm, h => by
    obtain ⟨l1, l2⟩ := List.pairwise_cons.1 hl
    obtain ⟨m1, m2⟩ := List.pairwise_cons.1 hm
    have e : x = y := by
      rcases List.mem_cons.1 ((h x).1 (List.mem_cons_self ..)) with h1 | h1
      · exact h1
      · rcases List.mem_cons.1 ((h y).2 (List.mem_cons_self ..)) with h2 | h2
        · exact h2.symm
        · have := geP_iff.1 (m1 x h1)
          have := geP_iff.1 (l1 y h2)
          omega
    subst e
    rw [pairs_ext l m l2 m2 (fun z => ⟨fun hz => by
      rcases List.mem_cons.1 ((h z).1 (List.mem_cons_of_mem _ hz)) with h1 | h1
      · subst h1
        have := geP_iff.1 (l1 z hz)
        omega
      · exact h1, fun hz => by
      rcases List.mem_cons.1 ((h z).2 (List.mem_cons_of_mem _ hz)) with h1 | h1
      · subst h1
        have := geP_iff.1 (m1 z hz)
        omega
      · exact h1⟩)]
theorem rev_rev {N : Nat} {ps : List (Int × Int)} (h : GOk (N : Int) ps) : revL N (revL N ps) = ps := by
  refine pairs_ext _ _ (rev_ok (rev_ok h)).up h.up (fun x => ?_)
  rw [mem_revL, mem_revL]
  constructor
  · rintro ⟨-, -, h3⟩; exact h3
  · intro hx; exact ⟨(h.ix x hx).1, (h.ix x hx).2, hx⟩
theorem out_rev (ps : List (Int × Int)) (i : Int) (h0 : 0 ≤ i) : ∀ k, outL (revL k ps) i = if i < (k : Int) then inL ps i else []
  | 0 => by
    rw [if_neg (by omega)]
    rfl
  | k + 1 => by
    have ih := out_rev ps i h0 k
    rw [revL_up]
    unfold outL at ih ⊢
    rw [List.filter_append, List.map_append, ih, List.filter_map, List.map_map]
    by_cases e : (k : Int) = i
    · subst e
      rw [if_neg (by omega), if_pos (by omega), List.nil_append]
      have e1 : (inL ps (k : Int)).filter ((fun p : Int × Int => p.1 == (k : Int)) ∘ fun j => ((k : Int), j)) = inL ps (k : Int) := by
        rw [List.filter_eq_self]
        intro a _
        simp
      rw [e1]
      have e2 : ((fun x : Int × Int => x.2) ∘ fun j => ((k : Int), j)) = id := rfl
      rw [e2, List.map_id]
    · have e1 : (inL ps (k : Int)).filter ((fun p : Int × Int => p.1 == i) ∘ fun j => ((k : Int), j)) = [] := by
        rw [List.filter_eq_nil_iff]
        intro a _
        simp only [Function.comp, beq_iff_eq]
        exact e
      rw [e1, List.map_nil, List.append_nil]
      by_cases h2 : i < (k : Int)
      · rw [if_pos h2, if_pos (by omega)]
      · rw [if_neg h2, if_neg (by omega)]
theorem has_rev {N : Nat} {ps : List (Int × Int)} (i k : Nat) (hk : k < N) : decide (((k : Int), (i : Int)) ∈ revL N ps) = decide (((i : Int), (k : Int)) ∈ ps) := by
  rw [decide_eq_decide, mem_revL]
  exact ⟨fun e => e.2, fun e => ⟨⟨by simp only; omega, by simp only; omega⟩, e⟩⟩
theorem reach_mem {N : Nat} {ps : List (Int × Int)} (i k : Nat) (hi : i < N) (hk : k < N) : ((k : Int) ∈ reachL (N : Int) ps (i : Int)) ↔ Rch ps i k := by
  have hix : ixB (i : Int) (N : Int) = true := by unfold ixB; simp; omega
  unfold reachL
  rw [if_pos hix]
  unfold ints reachN
  rw [List.mem_map]
  constructor
  · rintro ⟨x, hx, e⟩
    have e' : (x : Int) = (k : Int) := e
    obtain rfl : x = k := by omega
    have := (List.mem_filter.1 hx).2
    exact rchB_iff.1 this
  · intro h
    exact ⟨k, List.mem_filter.2 ⟨List.mem_range.2 (by simpa using hk), rchB_iff.2 h⟩, rfl⟩
theorem reach_rev {N : Nat} {ps : List (Int × Int)} (h : GOk (N : Int) ps) (i k : Nat) (hi : i < N) (hk : k < N) : decide ((i : Int) ∈ reachL (N : Int) (revL N ps) (k : Int)) = decide ((k : Int) ∈ reachL (N : Int) ps (i : Int)) := by
  rw [decide_eq_decide, reach_mem k i hk hi, reach_mem i k hi hk]
  exact rch_rev h i k
theorem lists_len (l : List (BitVec 64)) : (listsOf l).length = l.length := by unfold listsOf; rw [List.length_map]
theorem lists_in {l l' : List (BitVec 64)} (h : ∀ c ∈ l, c ∈ l') : ∀ z ∈ listsOf l, z ∈ listsOf l' := fun z hz => by
  unfold listsOf at *
  obtain ⟨c, hc, rfl⟩ := List.mem_map.1 hz
  exact List.mem_map.2 ⟨c, h c hc, rfl⟩
theorem lists_short {l : List (BitVec 64)} : ∀ z ∈ listsOf l, z.length ≤ 1000000 := fun z hz => by
  unfold listsOf at hz
  obtain ⟨c, -, rfl⟩ := List.mem_map.1 hz
  rw [ints_len]
  unfold members
  refine Nat.le_trans (List.length_filter_le _ _) ?_
  rw [List.length_range]
  decide
end Go.Proofs.YtcelijjohcfhkaaDoor
