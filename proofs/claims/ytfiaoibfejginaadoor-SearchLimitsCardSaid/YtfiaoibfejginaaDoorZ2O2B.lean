/- How many complete labellings, and naive sets, n pairs have. -/
import Derived.Test.YtfiaoibfejginaaDoorZ2R

namespace Go.Proofs.YtfiaoibfejginaaDoor
set_option linter.unusedVariables false
set_option linter.unusedSimpArgs false
open Go Go.RowKit Go.Sort

theorem at_pairs {k i : Nat} : ∀ {n : Nat}, At (pairsL n) k i ↔ ∃ j, j < n ∧ ((k = 2 * j ∧ i = 2 * j + 1) ∨ (k = 2 * j + 1 ∧ i = 2 * j))
  | 0 => by
    unfold At pairsL
    constructor
    · intro h; cases h
    · rintro ⟨j, h, -⟩; omega
  | n + 1 => by
    have ih := at_pairs (k := k) (i := i) (n := n)
    unfold At at *
    rw [pairsL, List.mem_append, ih]
    clear ih
    constructor
    · rintro (⟨j, hj, h⟩ | h)
      · exact ⟨j, by omega, h⟩
      · simp only [List.mem_cons, List.not_mem_nil, or_false, Prod.mk.injEq] at h
        refine ⟨n, Nat.lt_succ_self n, ?_⟩
        omega
    · rintro ⟨j, hj, h⟩
      by_cases e : j = n
      · subst e
        right
        simp only [List.mem_cons, List.not_mem_nil, or_false, Prod.mk.injEq]
        omega
      · exact .inl ⟨j, by omega, h⟩
theorem pairs_ok {n : Nat} (hn : n ≤ 8) : GOk ((2 * n : Nat) : Int) (pairsL n) := by
  have hall : ∀ n : Fin 9, valE ((2 * n.val : Nat) : Int) (pairsL n.val) = 0 := by decide +kernel
  exact valE_ok (hall ⟨n, by omega⟩)
theorem pairs_val {n : Nat} (hn : n ≤ 8) : valE (2 * (n : Int)) (pairsL n) = 0 := by
  have hall : ∀ n : Fin 9, valE (2 * (n.val : Int)) (pairsL n.val) = 0 := by decide +kernel
  exact hall ⟨n, by omega⟩
def P3 (a b : Int) : Prop := (a = 1 ∧ b = 2) ∨ (a = 2 ∧ b = 1) ∨ (a = 3 ∧ b = 3)
theorem comp_pairs {n : Nat} (hn : n ≤ 8) (l : List Int) : compB (2 * n) (pairsL n) l = true ↔ l.length = 2 * n ∧ ∀ j, j < n → P3 (l.getD (2 * j) 0) (l.getD (2 * j + 1) 0) := by
  rw [comp_iff (pairs_ok hn).ix]
  constructor
  · intro h
    refine ⟨h.len, fun j hj => ?_⟩
    have a1 := h.ok.get (i := 2 * j) (by have := h.len; omega)
    have a2 := h.ok.get (i := 2 * j + 1) (by have := h.len; omega)
    have k1 : l.getD (2 * j) 0 = 2 ↔ l.getD (2 * j + 1) 0 = 1 := by
      rw [h.two (2 * j) (by omega)]
      constructor
      · rintro ⟨k, hk, e⟩
        obtain ⟨j', -, h1 | h1⟩ := at_pairs.1 hk
        · omega
        · have : k = 2 * j + 1 := by omega
          rwa [this] at e
      · exact fun e => ⟨2 * j + 1, at_pairs.2 ⟨j, hj, .inr ⟨rfl, rfl⟩⟩, e⟩
    have k2 : l.getD (2 * j + 1) 0 = 2 ↔ l.getD (2 * j) 0 = 1 := by
      rw [h.two (2 * j + 1) (by omega)]
      constructor
      · rintro ⟨k, hk, e⟩
        obtain ⟨j', -, h1 | h1⟩ := at_pairs.1 hk
        · have : k = 2 * j := by omega
          rwa [this] at e
        · omega
      · exact fun e => ⟨2 * j, at_pairs.2 ⟨j, hj, .inl ⟨rfl, rfl⟩⟩, e⟩
    unfold P3
    omega
  · rintro ⟨hl, hp⟩
    refine ⟨hl, fun x hx => ?_, fun i hi => ⟨fun e => ?_, fun ⟨k, hk, e⟩ => ?_⟩, fun i hi => ⟨fun e k hk => ?_, fun hall => ?_⟩⟩
    · obtain ⟨i, hi, rfl⟩ := List.getElem_of_mem hx
      rw [← getD_at hi]
      have := hp (i / 2) (by omega)
      unfold P3 at this
      rcases Nat.mod_two_eq_zero_or_one i with h | h
      · rw [show 2 * (i / 2) = i by omega] at this; omega
      · rw [show 2 * (i / 2) + 1 = i by omega] at this; omega
    · have := hp (i / 2) (by omega)
      unfold P3 at this
      rcases Nat.mod_two_eq_zero_or_one i with h | h
      · refine ⟨2 * (i / 2) + 1, at_pairs.2 ⟨i / 2, by omega, .inr ⟨rfl, by omega⟩⟩, ?_⟩
        rw [show 2 * (i / 2) = i by omega] at this
        rw [show 2 * (i / 2) + 1 = i + 1 by omega] at *
        omega
      · refine ⟨2 * (i / 2), at_pairs.2 ⟨i / 2, by omega, .inl ⟨rfl, by omega⟩⟩, ?_⟩
        rw [show 2 * (i / 2) + 1 = i by omega] at this
        omega
    · obtain ⟨j, hj, ⟨rfl, rfl⟩ | ⟨rfl, rfl⟩⟩ := at_pairs.1 hk
      · have := hp j hj; unfold P3 at this; omega
      · have := hp j hj; unfold P3 at this; omega
    · obtain ⟨j, hj, ⟨rfl, rfl⟩ | ⟨rfl, rfl⟩⟩ := at_pairs.1 hk
      · have := hp j hj; unfold P3 at this; omega
      · have := hp j hj; unfold P3 at this; omega
    · have := hp (i / 2) (by omega)
      unfold P3 at this
      rcases Nat.mod_two_eq_zero_or_one i with h | h
      · have h2 := hall (2 * (i / 2) + 1) (at_pairs.2 ⟨i / 2, by omega, .inr ⟨rfl, by omega⟩⟩)
        rw [show 2 * (i / 2) = i by omega] at this
        rw [show 2 * (i / 2) + 1 = i + 1 by omega] at *
        omega
      · have h2 := hall (2 * (i / 2)) (at_pairs.2 ⟨i / 2, by omega, .inl ⟨rfl, by omega⟩⟩)
        rw [show 2 * (i / 2) + 1 = i by omega] at this
        omega
/-- All of them. -/
def allC : Nat → List (List Int)
  | 0 => [[]]
  | n + 1 => (allC n).flatMap fun l => [l ++ [1, 2], l ++ [2, 1], l ++ [3, 3]]
theorem allC_mem : ∀ {n : Nat} {l : List Int}, l ∈ allC n ↔ l.length = 2 * n ∧ ∀ j, j < n → P3 (l.getD (2 * j) 0) (l.getD (2 * j + 1) 0)
  | 0, l => by
    rw [allC, List.mem_singleton]
    exact ⟨fun h => by subst h; exact ⟨rfl, fun j hj => absurd hj (Nat.not_lt_zero _)⟩, fun h => List.eq_nil_of_length_eq_zero h.1⟩
  | n + 1, l => by
    rw [allC, List.mem_flatMap]
    constructor
    · rintro ⟨x, hx, hl⟩
      obtain ⟨h1, h2⟩ := allC_mem.1 hx
      have key : ∀ a b : Int, P3 a b → (x ++ [a, b]).length = 2 * (n + 1) ∧ ∀ j, j < n + 1 → P3 ((x ++ [a, b]).getD (2 * j) 0) ((x ++ [a, b]).getD (2 * j + 1) 0) := fun a b hab => by
        refine ⟨by rw [List.length_append, h1]; rfl, fun j hj => ?_⟩
        by_cases e : j = n
        · subst e
          rw [List.getD_eq_getElem?_getD, List.getD_eq_getElem?_getD, List.getElem?_append_right (by omega), List.getElem?_append_right (by omega), h1]
          simpa using hab
        · rw [List.getD_eq_getElem?_getD, List.getD_eq_getElem?_getD, List.getElem?_append_left (by omega), List.getElem?_append_left (by omega), ← List.getD_eq_getElem?_getD, ← List.getD_eq_getElem?_getD]
          exact h2 j (by omega)
      simp only [List.mem_cons, List.not_mem_nil, or_false] at hl
      rcases hl with rfl | rfl | rfl
      · exact key 1 2 (.inl ⟨rfl, rfl⟩)
      · exact key 2 1 (.inr (.inl ⟨rfl, rfl⟩))
      · exact key 3 3 (.inr (.inr ⟨rfl, rfl⟩))
    · rintro ⟨h1, h2⟩
      have e : l = l.take (2 * n) ++ [l.getD (2 * n) 0, l.getD (2 * n + 1) 0] := by
        rw [getD_at (show 2 * n < l.length by omega), getD_at (show 2 * n + 1 < l.length by omega)]
        have e1 := List.drop_eq_getElem_cons (show 2 * n < l.length by omega)
        have e2 := List.drop_eq_getElem_cons (show 2 * n + 1 < l.length by omega)
        rw [List.drop_of_length_le (show l.length ≤ 2 * n + 1 + 1 by omega)] at e2
        rw [e2] at e1
        rw [← e1, List.take_append_drop]
      refine ⟨l.take (2 * n), allC_mem.2 ⟨by rw [List.length_take]; omega, fun j hj => ?_⟩, ?_⟩
      · rw [List.getD_eq_getElem?_getD, List.getD_eq_getElem?_getD, List.getElem?_take_of_lt (by omega), List.getElem?_take_of_lt (by omega), ← List.getD_eq_getElem?_getD, ← List.getD_eq_getElem?_getD]
        exact h2 j (by omega)
      · have h3 := h2 n (by omega)
        unfold P3 at h3
        simp only [List.mem_cons, List.not_mem_nil, or_false]
        rcases h3 with ⟨a, b⟩ | ⟨a, b⟩ | ⟨a, b⟩
        · rw [a, b] at e; exact .inl e
        · rw [a, b] at e; exact .inr (.inl e)
        · rw [a, b] at e; exact .inr (.inr e)
theorem flat_len {α β : Type} (f : α → List β) (k : Nat) (h : ∀ x, (f x).length = k) : ∀ l : List α, (l.flatMap f).length = k * l.length
  | [] => by simp
  | x :: l => by rw [List.flatMap_cons, List.length_append, h, flat_len f k h l, List.length_cons, Nat.mul_succ]; omega
theorem allC_len : ∀ n, (allC n).length = 3 ^ n
  | 0 => rfl
  | n + 1 => by rw [allC, flat_len _ 3 (fun _ => rfl), allC_len n, Nat.pow_succ]; omega
theorem allC_nodup : ∀ n, (allC n).Nodup
  | 0 => List.pairwise_singleton _ _
  | n + 1 => by
    rw [allC]
    refine List.pairwise_flatMap.2 ⟨fun l _ => ?_, ?_⟩
    · simp
    · refine (allC_nodup n).imp fun {a b} hab x hx y hy e => hab ?_
      simp only [List.mem_cons, List.not_mem_nil, or_false] at hx hy
      subst e
      rcases hx with rfl | rfl | rfl <;> rcases hy with h | h | h <;> first | exact (List.append_inj' h rfl).1 | (exact absurd (List.append_inj' h rfl).2 (by decide))
theorem cl_pairs {n : Nat} (hn : n ≤ 8) {ls : List (List Int)} (h : CL (2 * n) (pairsL n) ls) : ls.length = 3 ^ n := by
  have nd : ls.Nodup := h.up.imp fun {a b} hab e => by subst e; rw [cmpF_refl] at hab; exact absurd hab (by decide)
  have h1 := nodup_len14 (l := ls) (m := allC n) nd fun x hx => allC_mem.2 ((comp_pairs hn x).1 ((h.mem x).1 hx))
  have h2 := nodup_len14 (l := allC n) (m := ls) (allC_nodup n) fun x hx => (h.mem x).2 ((comp_pairs hn x).2 (allC_mem.1 hx))
  rw [allC_len] at h1 h2
  omega
theorem clm_pairs {n : Nat} (hn : n ≤ 8) (h : CLmore (2 * n) (pairsL n)) : 200 < 3 ^ n := by
  obtain ⟨ls, h1, h2, h3⟩ := h
  have := nodup_len14 (l := ls) (m := allC n) h1 fun x hx => allC_mem.2 ((comp_pairs hn x).1 (h2 x hx))
  rw [allC_len] at this
  omega
/-- The naive sets. -/
theorem naive_pairs {n : Nat} (hn : n ≤ 8) (X : Nat → Bool) : naiveX (2 * n) (pairsL n) X ↔ ∀ j, j < n → X (2 * j) = !(X (2 * j + 1)) := by
  have hix := (pairs_ok hn).ix
  constructor
  · rintro ⟨h1, h2⟩ j hj
    have hc := (cfX_iff hix).1 h1
    cases e0 : X (2 * j) <;> cases e1 : X (2 * j + 1)
    · exfalso
      have h3 := h2 (2 * j) (by omega) e0
      have h4 : cfX (pairsL n) (addX X (2 * j)) = true := (cfX_iff hix).2 fun a b hab ha hb => by
        have ha' : X a = true ∨ a = 2 * j := by simpa [addX] using ha
        have hb' : X b = true ∨ b = 2 * j := by simpa [addX] using hb
        obtain ⟨j', hj', ⟨rfl, rfl⟩ | ⟨rfl, rfl⟩⟩ := at_pairs.1 hab
        · rcases ha' with ha' | ha'
          · rcases hb' with hb' | hb'
            · exact hc _ _ hab ha' hb'
            · omega
          · have : j' = j := by omega
            subst this
            rcases hb' with hb' | hb'
            · rw [e1] at hb'; cases hb'
            · omega
        · rcases hb' with hb' | hb'
          · rcases ha' with ha' | ha'
            · exact hc _ _ hab ha' hb'
            · omega
          · have : j' = j := by omega
            subst this
            rcases ha' with ha' | ha'
            · rw [e1] at ha'; cases ha'
            · omega
      rw [h4] at h3; cases h3
    · rfl
    · rfl
    · exact (hc (2 * j) (2 * j + 1) (at_pairs.2 ⟨j, hj, .inl ⟨rfl, rfl⟩⟩) e0 e1).elim
  · intro h
    refine ⟨(cfX_iff hix).2 fun a b hab ha hb => ?_, fun k hk hX => Bool.eq_false_iff.2 fun hc => ?_⟩
    · obtain ⟨j, hj, ⟨rfl, rfl⟩ | ⟨rfl, rfl⟩⟩ := at_pairs.1 hab
      · have := h j hj; rw [ha, hb] at this; cases this
      · have := h j hj; rw [ha, hb] at this; cases this
    · have hc := (cfX_iff hix).1 hc
      have hj := h (k / 2) (by omega)
      rcases Nat.mod_two_eq_zero_or_one k with e | e
      · rw [show 2 * (k / 2) = k by omega, hX] at hj
        have h1 : X (k + 1) = true := by cases e : X (k + 1) <;> rw [e] at hj <;> first | rfl | cases hj
        exact hc k (k + 1) (at_pairs.2 ⟨k / 2, by omega, .inl ⟨by omega, by omega⟩⟩) (by simp [addX]) (by simp [addX, h1])
      · rw [show 2 * (k / 2) + 1 = k by omega, hX] at hj
        have h1 : X (2 * (k / 2)) = true := hj
        exact hc (2 * (k / 2)) k (at_pairs.2 ⟨k / 2, by omega, .inl ⟨by omega, by omega⟩⟩) (by simp [addX, h1]) (by simp [addX])
def allN : Nat → List (List Int)
  | 0 => [[]]
  | n + 1 => (allN n).flatMap fun l => [l ++ [((2 * n : Nat) : Int)], l ++ [((2 * n + 1 : Nat) : Int)]]
theorem allN_len : ∀ n, (allN n).length = 2 ^ n
  | 0 => rfl
  | n + 1 => by rw [allN, flat_len _ 2 (fun _ => rfl), allN_len n, Nat.pow_succ]; omega
theorem allN_nodup : ∀ n, (allN n).Nodup
  | 0 => List.pairwise_singleton _ _
  | n + 1 => by
    rw [allN]
    refine List.pairwise_flatMap.2 ⟨fun l _ => ?_, ?_⟩
    · simp; omega
    · refine (allN_nodup n).imp fun {a b} hab x hx y hy e => hab ?_
      simp only [List.mem_cons, List.not_mem_nil, or_false] at hx hy
      subst e
      rcases hx with rfl | rfl <;> rcases hy with h | h <;> exact (List.append_inj' h rfl).1
theorem setL_two (n : Nat) (X : Nat → Bool) : setL (2 * (n + 1)) X = setL (2 * n) X ++ ((if X (2 * n) = true then [((2 * n : Nat) : Int)] else []) ++ (if X (2 * n + 1) = true then [((2 * n + 1 : Nat) : Int)] else [])) := by
  unfold setL ints
  rw [show 2 * (n + 1) = 2 * n + 1 + 1 by omega, List.range_succ, List.range_succ, List.filter_append, List.filter_append, List.map_append, List.map_append, List.append_assoc]
  congr 1
  congr 1
  · by_cases h : X (2 * n) = true
    · simp [h]
    · simp [h]
  · by_cases h : X (2 * n + 1) = true
    · simp [h]
    · simp [h]
theorem allN_mem : ∀ {n : Nat} {l : List Int}, l ∈ allN n ↔ ∃ X : Nat → Bool, (∀ j, j < n → X (2 * j) = !(X (2 * j + 1))) ∧ l = setL (2 * n) X
  | 0, l => by
    rw [allN, List.mem_singleton]
    exact ⟨fun h => ⟨fun _ => false, fun j hj => absurd hj (Nat.not_lt_zero _), h⟩, fun ⟨X, _, h⟩ => h⟩
  | n + 1, l => by
    rw [allN, List.mem_flatMap]
    constructor
    · rintro ⟨x, hx, hl⟩
      obtain ⟨X, h1, rfl⟩ := allN_mem.1 hx
      simp only [List.mem_cons, List.not_mem_nil, or_false] at hl
      have key : ∀ b : Bool, ∃ Y : Nat → Bool, (∀ j, j < n + 1 → Y (2 * j) = !(Y (2 * j + 1))) ∧ setL (2 * n) X = setL (2 * n) Y ∧ Y (2 * n) = b ∧ Y (2 * n + 1) = !b := fun b => by
        refine ⟨fun i => if i = 2 * n then b else if i = 2 * n + 1 then !b else X i, fun j hj => ?_, setL_congr fun i hi => ?_, by simp, by simp⟩
        · by_cases e : j = n
          · subst e; simp
          · simp only
            rw [if_neg (by omega), if_neg (by omega), if_neg (by omega), if_neg (by omega)]
            exact h1 j (by omega)
        · rw [if_neg (by omega), if_neg (by omega)]
      rcases hl with rfl | rfl
      · obtain ⟨Y, y1, y2, y3, y4⟩ := key true
        exact ⟨Y, y1, by rw [setL_two, y3, y4, y2]; rfl⟩
      · obtain ⟨Y, y1, y2, y3, y4⟩ := key false
        exact ⟨Y, y1, by rw [setL_two, y3, y4, y2]; rfl⟩
    · rintro ⟨X, h1, rfl⟩
      refine ⟨setL (2 * n) X, allN_mem.2 ⟨X, fun j hj => h1 j (by omega), rfl⟩, ?_⟩
      rw [setL_two]
      have h2 := h1 n (by omega)
      simp only [List.mem_cons, List.not_mem_nil, or_false]
      cases e : X (2 * n + 1)
      · rw [e] at h2
        left
        rw [if_pos (show X (2 * n) = true from h2), if_neg (by decide)]; rfl
      · rw [e] at h2
        right
        rw [if_neg (show ¬ X (2 * n) = true by rw [h2]; decide), if_pos rfl]; rfl
theorem nset_iff {n : Nat} (hn : n ≤ 8) (l : List Int) : (setB (2 * n) l = true ∧ naiveX (2 * n) (pairsL n) (memB l)) ↔ l ∈ allN n := by
  rw [allN_mem]
  constructor
  · rintro ⟨h1, h2⟩
    exact ⟨memB l, (naive_pairs hn _).1 h2, setB_eq h1⟩
  · rintro ⟨X, h1, rfl⟩
    refine ⟨setB_setL _ _, (naive_pairs hn _).2 fun j hj => ?_⟩
    rw [memB_setL, memB_setL, decide_eq_true (show 2 * j < 2 * n by omega), decide_eq_true (show 2 * j + 1 < 2 * n by omega), Bool.true_and, Bool.true_and]
    exact h1 j hj
theorem nl_pairs {n : Nat} (hn : n ≤ 8) {ls : List (List Int)} (h : NL (2 * n) (pairsL n) ls) : ls.length = 2 ^ n := by
  have nd : ls.Nodup := h.up.imp fun {a b} hab e => by subst e; rw [cmpF_refl] at hab; exact absurd hab (by decide)
  have h1 := nodup_len14 (l := ls) (m := allN n) nd fun x hx => (nset_iff hn x).1 ((h.mem x).1 hx)
  have h2 := nodup_len14 (l := allN n) (m := ls) (allN_nodup n) fun x hx => (h.mem x).2 ((nset_iff hn x).2 hx)
  rw [allN_len] at h1 h2
  omega
theorem nlm_pairs {n : Nat} (hn : n ≤ 8) (h : NLmore (2 * n) (pairsL n)) : 200 < 2 ^ n := by
  obtain ⟨ls, h1, h2, h3⟩ := h
  have := nodup_len14 (l := ls) (m := allN n) h1 fun x hx => (nset_iff hn x).1 (h2 x hx)
  rw [allN_len] at this
  omega
end Go.Proofs.YtfiaoibfejginaaDoor
