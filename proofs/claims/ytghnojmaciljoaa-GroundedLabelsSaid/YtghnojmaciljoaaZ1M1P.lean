/- The rounds as the reference goes them: after each round what has been decided is what the grounded labelling decides up to that rank. -/
import Derived.Test.YtghnojmaciljoaaZ1D

namespace Go.Proofs.Ytghnojmaciljoaa
set_option linter.unusedVariables false
set_option linter.unusedSimpArgs false
open Go Go.RowKit Go.Sort

theorem inL_ins {N : Int} {ps : List (Int × Int)} (hok : GOk N ps) (i : Nat) : inL ps (i : Int) = intsN (ins ps i) := by
  unfold inL intsN ins
  rw [List.map_map]
  refine List.map_congr_left fun p hp => ?_
  have := hok.ix p (List.mem_filter.1 hp).1
  simp only [Function.comp]
  omega
theorem ins_lt {N : Int} {ps : List (Int × Int)} (hok : GOk N ps) (i : Nat) : ∀ k ∈ ins ps i, (k : Int) < N := fun k hk => by
  unfold ins at hk
  obtain ⟨p, hp, rfl⟩ := List.mem_map.1 hk
  have := hok.ix p (List.mem_filter.1 hp).1
  omega
def frB (before : List Int) (ps : List (Int × Int)) (i : Nat) : Bool := decide (before.getD i 0 = 3) && (ins ps i).all fun k => decide (before.getD k 0 = 2)
def inS (before : List Int) (ps : List (Int × Int)) (t : Int) (s : List Int × List Int × Bool) (i : Nat) : List Int × List Int × Bool := if frB before ps i = true then (s.1.set i 1, s.2.1.set i t, true) else s
def outS (t : Int) (i : Nat) (s : List Int × List Int) (k : Nat) : List Int × List Int := if s.1.getD i 0 = 3 ∧ s.1.getD k 0 = 1 ∧ s.2.getD k 0 = t then (s.1.set i 2, s.2.set i t) else s

theorem fsR_getD {N : Nat} {f : Nat → Int} {i : Nat} (h : i < N) : (fsR N f).getD i 0 = f i := by
  rw [getD_at (by rw [fsR_len]; exact h), fsR_get]
def cutF (g r : List Int) (z : Int) (t : Int) (i : Nat) : Int := if r.getD i 0 < t then g.getD i 0 else z
def inT (gl gr : List Int) (t : Int) (i : Nat) : Bool := decide (gl.getD i 0 = 1) && decide (gr.getD i 0 = t)
def outT (gl gr : List Int) (t : Int) (i : Nat) : Bool := decide (gl.getD i 0 = 2) && decide (gr.getD i 0 = t)
def midF (gl gr : List Int) (t : Int) (j : Nat) (i : Nat) : Int := if i < j ∧ inT gl gr t i = true then 1 else cutF gl gr 3 t i
def midG (gl gr : List Int) (t : Int) (j : Nat) (i : Nat) : Int := if i < j ∧ inT gl gr t i = true then t else cutF gr gr 0 t i
def endF (gl gr : List Int) (t : Int) (j : Nat) (i : Nat) : Int := if inT gl gr t i = true then 1 else if i < j ∧ outT gl gr t i = true then 2 else cutF gl gr 3 t i
def endG (gl gr : List Int) (t : Int) (j : Nat) (i : Nat) : Int := if inT gl gr t i = true then t else if i < j ∧ outT gl gr t i = true then t else cutF gr gr 0 t i

section
variable {N : Nat} {ps : List (Int × Int)} (hix : ∀ p ∈ ps, (0 ≤ p.1 ∧ p.1 < (N : Int)) ∧ (0 ≤ p.2 ∧ p.2 < (N : Int))) {gl gr : List Int} (h : GSpec N ps gl gr) {t : Int} (ht : 1 ≤ t)
include hix h ht

theorem free_in {i : Nat} (hi : i < N) : frB (fsR N (cutF gl gr 3 t)) ps i = inT gl gr t i := by
  have cut : ∀ k, k < N → ((fsR N (cutF gl gr 3 t)).getD k 0 = 2 ↔ gr.getD k 0 < t ∧ gl.getD k 0 = 2) := fun k hk => by
    rw [fsR_getD hk]; unfold cutF
    split
    · rename_i hlt; exact ⟨fun e => ⟨hlt, e⟩, fun e => e.2⟩
    · rename_i hlt; exact ⟨fun e => by omega, fun e => absurd e.1 hlt⟩
  have hc := h.complete
  rw [Bool.eq_iff_iff]
  unfold frB inT
  rw [Bool.and_eq_true, Bool.and_eq_true, decide_eq_true_eq, decide_eq_true_eq, decide_eq_true_eq, List.all_eq_true]
  rw [fsR_getD hi]
  constructor
  · rintro ⟨h3, hall⟩
    have hall2 : ∀ k, At ps k i → gr.getD k 0 < t ∧ gl.getD k 0 = 2 := fun k hk => (cut k (at_lt hix hk).1).1 (of_decide_eq_true (hall k ((mem_ins hix).2 hk)))
    have e1 := (hc.one i hi).2 fun k hk => (hall2 k hk).2
    obtain ⟨g1, g2, g3⟩ := h.inn i hi e1
    have hge : ¬ gr.getD i 0 < t := fun hlt => by unfold cutF at h3; rw [if_pos hlt] at h3; omega
    rcases g3 with g3 | ⟨k, hk, g3⟩
    · exact ⟨e1, by omega⟩
    · have := (hall2 k hk).1; exact ⟨e1, by omega⟩
  · rintro ⟨e1, e2⟩
    obtain ⟨g1, g2, g3⟩ := h.inn i hi e1
    refine ⟨by unfold cutF; rw [if_neg (by omega)], fun k hk => ?_⟩
    have hat := (mem_ins hix).1 hk
    exact decide_eq_true ((cut k (at_lt hix hat).1).2 ⟨by have := (g2 k hat).2; omega, (g2 k hat).1⟩)
theorem in_all (j : Nat) (hj : j ≤ N) : (List.range j).foldl (inS (fsR N (cutF gl gr 3 t)) ps t) (fsR N (cutF gl gr 3 t), fsR N (cutF gr gr 0 t), false) = (fsR N (midF gl gr t j), fsR N (midG gl gr t j), (List.range j).any (inT gl gr t)) := by
  induction j with
  | zero =>
    have e1 : fsR N (midF gl gr t 0) = fsR N (cutF gl gr 3 t) := fsR_congr fun i _ => by unfold midF; rw [if_neg (fun h => Nat.not_lt_zero i h.1)]
    have e2 : fsR N (midG gl gr t 0) = fsR N (cutF gr gr 0 t) := fsR_congr fun i _ => by unfold midG; rw [if_neg (fun h => Nat.not_lt_zero i h.1)]
    rw [e1, e2]; rfl
  | succ j ih =>
    rw [List.range_succ, List.foldl_append, ih (by omega), List.any_append]
    show inS _ _ _ _ j = _
    unfold inS
    rw [free_in hix h ht (by omega)]
    cases hb : inT gl gr t j
    · rw [if_neg (by decide)]
      have e1 : fsR N (midF gl gr t (j + 1)) = fsR N (midF gl gr t j) := fsR_congr fun i _ => by
        unfold midF
        by_cases e : i = j
        · subst e; rw [hb]; simp
        · simp only [show (i < j + 1) = (i < j) by rw [eq_iff_iff]; omega]
      have e2 : fsR N (midG gl gr t (j + 1)) = fsR N (midG gl gr t j) := fsR_congr fun i _ => by
        unfold midG
        by_cases e : i = j
        · subst e; rw [hb]; simp
        · simp only [show (i < j + 1) = (i < j) by rw [eq_iff_iff]; omega]
      rw [e1, e2]
      simp [hb]
    · rw [if_pos rfl]
      simp only
      rw [fsR_set, fsR_set]
      have e1 : fsR N (midF gl gr t (j + 1)) = fsR N (fun i => if i = j then 1 else midF gl gr t j i) := fsR_congr fun i _ => by
        unfold midF
        by_cases e : i = j
        · subst e; rw [hb]; simp
        · rw [if_neg e]; simp only [show (i < j + 1) = (i < j) by rw [eq_iff_iff]; omega]
      have e2 : fsR N (midG gl gr t (j + 1)) = fsR N (fun i => if i = j then t else midG gl gr t j i) := fsR_congr fun i _ => by
        unfold midG
        by_cases e : i = j
        · subst e; rw [hb]; simp
        · rw [if_neg e]; simp only [show (i < j + 1) = (i < j) by rw [eq_iff_iff]; omega]
      rw [e1, e2]
      simp [hb]
omit hix h ht in
theorem mid_end : fsR N (midF gl gr t N) = fsR N (endF gl gr t 0) ∧ fsR N (midG gl gr t N) = fsR N (endG gl gr t 0) := by
  constructor
  · refine fsR_congr fun i hi => ?_
    unfold midF endF
    simp [hi]
  · refine fsR_congr fun i hi => ?_
    unfold midG endG
    simp [hi]
omit hix in
theorem end_cut : fsR N (endF gl gr t N) = fsR N (cutF gl gr 3 (t + 1)) ∧ fsR N (endG gl gr t N) = fsR N (cutF gr gr 0 (t + 1)) := by
  have key : ∀ i, i < N → (inT gl gr t i = true → gl.getD i 0 = 1 ∧ gr.getD i 0 = t) ∧ (outT gl gr t i = true → gl.getD i 0 = 2 ∧ gr.getD i 0 = t) ∧ (inT gl gr t i = false → outT gl gr t i = false → gr.getD i 0 ≠ t) := fun i hi => by
    unfold inT outT
    refine ⟨fun e => by simpa using e, fun e => by simpa using e, fun e1 e2 e3 => ?_⟩
    rw [e3, decide_eq_true rfl, Bool.and_true] at e1 e2
    have := of_decide_eq_false e1
    have := of_decide_eq_false e2
    rcases h.lo i hi with f | f | f
    · contradiction
    · contradiction
    · have := h.und i hi f; omega
  constructor
  · refine fsR_congr fun i hi => ?_
    obtain ⟨k1, k2, k3⟩ := key i hi
    unfold endF cutF
    cases e1 : inT gl gr t i
    · rw [if_neg (by decide)]
      cases e2 : outT gl gr t i
      · have := k3 e1 e2
        rw [if_neg (fun hh => by cases hh.2)]
        by_cases hlt : gr.getD i 0 < t
        · rw [if_pos hlt, if_pos (by omega)]
        · rw [if_neg hlt, if_neg (by omega)]
      · obtain ⟨f1, f2⟩ := k2 e2
        rw [if_pos ⟨hi, rfl⟩, if_pos (by omega), f1]
    · obtain ⟨f1, f2⟩ := k1 e1
      rw [if_pos rfl, if_pos (by omega), f1]
  · refine fsR_congr fun i hi => ?_
    obtain ⟨k1, k2, k3⟩ := key i hi
    unfold endG cutF
    cases e1 : inT gl gr t i
    · rw [if_neg (by decide)]
      cases e2 : outT gl gr t i
      · have := k3 e1 e2
        rw [if_neg (fun hh => by cases hh.2)]
        by_cases hlt : gr.getD i 0 < t
        · rw [if_pos hlt, if_pos (by omega)]
        · rw [if_neg hlt, if_neg (by omega)]
      · obtain ⟨f1, f2⟩ := k2 e2
        rw [if_pos ⟨hi, rfl⟩, if_pos (by omega), f2]
    · obtain ⟨f1, f2⟩ := k1 e1
      rw [if_pos rfl, if_pos (by omega), f2]
omit ht in
theorem out_inner {i : Nat} (hi : i < N) : (ins ps i).foldl (outS t i) (fsR N (endF gl gr t i), fsR N (endG gl gr t i)) = (fsR N (endF gl gr t (i + 1)), fsR N (endG gl gr t (i + 1))) := by
  have hlk : ∀ k, k < N → (((fsR N (endF gl gr t i)).getD k 0 = 1 ∧ (fsR N (endG gl gr t i)).getD k 0 = t) ↔ inT gl gr t k = true) := fun k hk => by
    rw [fsR_getD hk, fsR_getD hk]
    unfold endF endG
    cases e1 : inT gl gr t k
    · simp only [Bool.false_eq_true, if_false]
      constructor
      · rintro ⟨a1, a2⟩
        by_cases hn : k < i ∧ outT gl gr t k = true
        · rw [if_pos hn] at a1; omega
        · rw [if_neg hn] at a1 a2
          unfold cutF at a1 a2
          by_cases hlt : gr.getD k 0 < t
          · rw [if_pos hlt] at a2; omega
          · rw [if_neg hlt] at a1; omega
      · intro e; cases e
    · rw [if_pos rfl, if_pos rfl]
      exact ⟨fun _ => rfl, fun _ => ⟨rfl, rfl⟩⟩
  have S1 : ∀ (l : List Nat), l.foldl (outS t i) ((fsR N (endF gl gr t i)).set i 2, (fsR N (endG gl gr t i)).set i t) = ((fsR N (endF gl gr t i)).set i 2, (fsR N (endG gl gr t i)).set i t) := by
    intro l
    induction l with
    | nil => rfl
    | cons k l ih =>
      rw [List.foldl_cons]
      have : outS t i ((fsR N (endF gl gr t i)).set i 2, (fsR N (endG gl gr t i)).set i t) k = ((fsR N (endF gl gr t i)).set i 2, (fsR N (endG gl gr t i)).set i t) := by
        unfold outS
        rw [if_neg]
        rintro ⟨e, -⟩
        simp only at e
        rw [set_getD _ _ _ _ (by rw [fsR_len]; exact hi), if_pos rfl] at e
        omega
      rw [this]; exact ih
  have S0 : ∀ (l : List Nat), (∀ k ∈ l, k < N) → l.foldl (outS t i) (fsR N (endF gl gr t i), fsR N (endG gl gr t i)) = if (fsR N (endF gl gr t i)).getD i 0 = 3 ∧ l.any (inT gl gr t) = true then ((fsR N (endF gl gr t i)).set i 2, (fsR N (endG gl gr t i)).set i t) else (fsR N (endF gl gr t i), fsR N (endG gl gr t i)) := by
    intro l
    induction l with
    | nil => intro _; rw [if_neg (fun hh => by cases hh.2)]; rfl
    | cons k l ih =>
      intro hl
      rw [List.foldl_cons]
      have hk := hlk k (hl k (List.mem_cons_self ..))
      by_cases hc : (fsR N (endF gl gr t i)).getD i 0 = 3 ∧ inT gl gr t k = true
      · have : outS t i (fsR N (endF gl gr t i), fsR N (endG gl gr t i)) k = ((fsR N (endF gl gr t i)).set i 2, (fsR N (endG gl gr t i)).set i t) := by
          unfold outS
          exact if_pos ⟨hc.1, hk.2 hc.2⟩
        rw [this, S1, if_pos ⟨hc.1, by rw [List.any_cons, hc.2]; rfl⟩]
      · have : outS t i (fsR N (endF gl gr t i), fsR N (endG gl gr t i)) k = (fsR N (endF gl gr t i), fsR N (endG gl gr t i)) := by
          unfold outS
          exact if_neg fun hh => hc ⟨hh.1, hk.1 hh.2⟩
        rw [this, ih fun x hx => hl x (List.mem_cons_of_mem _ hx)]
        by_cases e3 : (fsR N (endF gl gr t i)).getD i 0 = 3
        · have : inT gl gr t k = false := by
            cases hh : inT gl gr t k
            · rfl
            · exact absurd ⟨e3, hh⟩ hc
          simp only [List.any_cons, this, Bool.false_or]
        · rw [if_neg (fun hh => e3 hh.1), if_neg (fun hh => e3 hh.1)]
  rw [S0 _ (fun k hk => (at_lt hix ((mem_ins hix).1 hk)).1)]
  have hval : (fsR N (endF gl gr t i)).getD i 0 = if inT gl gr t i = true then 1 else cutF gl gr 3 t i := by
    rw [fsR_getD hi]; unfold endF; simp
  have hmain : ((fsR N (endF gl gr t i)).getD i 0 = 3 ∧ (ins ps i).any (inT gl gr t) = true) ↔ outT gl gr t i = true := by
    rw [hval]
    have hinT : ∀ k, inT gl gr t k = true ↔ gl.getD k 0 = 1 ∧ gr.getD k 0 = t := fun k => by unfold inT; simp
    have houtT : outT gl gr t i = true ↔ gl.getD i 0 = 2 ∧ gr.getD i 0 = t := by unfold outT; simp
    rw [houtT, List.any_eq_true]
    constructor
    · rintro ⟨e3, k, hk, hkt⟩
      have hat := (mem_ins hix).1 hk
      obtain ⟨k1, k2⟩ := (hinT k).1 hkt
      have e2 := (h.complete.two i hi).2 ⟨k, hat, k1⟩
      obtain ⟨o1, o2, o3⟩ := h.out i hi e2
      have := o3 k hat k1
      have hnin : ¬ (inT gl gr t i = true) := fun hh => by have := ((hinT i).1 hh).1; omega
      rw [if_neg hnin] at e3
      unfold cutF at e3
      by_cases hlt : gr.getD i 0 < t
      · rw [if_pos hlt] at e3; omega
      · exact ⟨e2, by omega⟩
    · rintro ⟨e2, e3⟩
      obtain ⟨o1, ⟨k, hk, k1, k2⟩, o3⟩ := h.out i hi e2
      have hnin : ¬ (inT gl gr t i = true) := fun hh => by have := ((hinT i).1 hh).1; omega
      refine ⟨?_, k, (mem_ins hix).2 hk, (hinT k).2 ⟨k1, by omega⟩⟩
      rw [if_neg hnin]
      unfold cutF
      rw [if_neg (by omega)]
  by_cases hc : outT gl gr t i = true
  · rw [if_pos (hmain.2 hc), fsR_set, fsR_set]
    have hnin : inT gl gr t i = false := by
      cases hh : inT gl gr t i
      · rfl
      · unfold inT at hh; unfold outT at hc
        simp at hh hc
        omega
    congr 1
    · refine fsR_congr fun x hx => ?_
      unfold endF
      by_cases e : x = i
      · subst e; simp [hnin, hc]
      · rw [if_neg e]; simp only [show (x < i + 1) = (x < i) by rw [eq_iff_iff]; omega]
    · refine fsR_congr fun x hx => ?_
      unfold endG
      by_cases e : x = i
      · subst e; simp [hnin, hc]
      · rw [if_neg e]; simp only [show (x < i + 1) = (x < i) by rw [eq_iff_iff]; omega]
  · rw [if_neg (fun hh => hc (hmain.1 hh))]
    congr 1
    · refine fsR_congr fun x hx => ?_
      unfold endF
      by_cases e : x = i
      · subst e; simp [hc]
      · simp only [show (x < i + 1) = (x < i) by rw [eq_iff_iff]; omega]
    · refine fsR_congr fun x hx => ?_
      unfold endG
      by_cases e : x = i
      · subst e; simp [hc]
      · simp only [show (x < i + 1) = (x < i) by rw [eq_iff_iff]; omega]
omit ht in
theorem out_all (j : Nat) (hj : j ≤ N) : (List.range j).foldl (fun s i => (ins ps i).foldl (outS t i) s) (fsR N (endF gl gr t 0), fsR N (endG gl gr t 0)) = (fsR N (endF gl gr t j), fsR N (endG gl gr t j)) := by
  induction j with
  | zero => rfl
  | succ j ih =>
    rw [List.range_succ, List.foldl_append, ih (by omega)]
    show (ins ps j).foldl (outS t j) _ = _
    exact out_inner hix h (by omega)
/-- The round that changes nothing is the last. -/
theorem last_round (hno : (List.range N).any (inT gl gr t) = false) : fsR N (cutF gl gr 3 (t + 1)) = gl ∧ fsR N (cutF gr gr 0 (t + 1)) = gr := by
  rw [List.any_eq_false] at hno
  have hin : ∀ (d : Nat) (i : Nat), i < N → gl.getD i 0 = 1 → gr.getD i 0 ≠ t + d := by
    intro d
    induction d with
    | zero =>
      intro i hi e1 e2
      refine hno i (List.mem_range.2 hi) ?_
      unfold inT
      rw [decide_eq_true e1, decide_eq_true (by omega)]; rfl
    | succ d ih =>
      intro i hi e1 e2
      obtain ⟨g1, g2, g3⟩ := h.inn i hi e1
      rcases g3 with g3 | ⟨k, hk, g3⟩
      · omega
      · have hkN := (at_lt hix hk).1
        obtain ⟨-, ⟨m, hm, m1, m2⟩, -⟩ := h.out k hkN (g2 k hk).1
        exact ih m (at_lt hix hm).1 m1 (by omega)
  have hall : ∀ i, i < N → gr.getD i 0 < t + 1 := fun i hi => by
    refine Classical.byContradiction fun hge => ?_
    rcases h.lo i hi with e | e | e
    · exact hin (gr.getD i 0 - t).toNat i hi e (by omega)
    · obtain ⟨-, ⟨m, hm, m1, m2⟩, -⟩ := h.out i hi e
      exact hin (gr.getD i 0 - t).toNat m (at_lt hix hm).1 m1 (by omega)
    · have := h.und i hi e; omega
  constructor
  · refine getD_eq (N := N) (fsR_len _ _) h.ll fun i hi => ?_
    rw [fsR_getD hi]; unfold cutF; rw [if_pos (hall i hi)]
  · refine getD_eq (N := N) (fsR_len _ _) h.rl fun i hi => ?_
    rw [fsR_getD hi]; unfold cutF; rw [if_pos (hall i hi)]
omit hix ht in
theorem cut_start : fsR N (cutF gl gr 3 1) = List.replicate N 3 ∧ fsR N (cutF gr gr 0 1) = List.replicate N 0 := by
  have key : ∀ i, i < N → ¬ gr.getD i 0 < 1 ∨ (gr.getD i 0 = 0 ∧ gl.getD i 0 = 3) := fun i hi => by
    rcases h.lo i hi with e | e | e
    · have := (h.inn i hi e).1; exact .inl (by omega)
    · have := (h.out i hi e).1; exact .inl (by omega)
    · exact .inr ⟨(h.und i hi e).1, e⟩
  constructor
  · apply List.ext_getElem (by rw [fsR_len, List.length_replicate])
    intro i h1 h2
    have hi : i < N := by rw [fsR_len] at h1; exact h1
    rw [fsR_get, List.getElem_replicate]
    unfold cutF
    rcases key i hi with k | ⟨k, k2⟩
    · rw [if_neg k]
    · rw [if_pos (by omega)]; exact k2
  · apply List.ext_getElem (by rw [fsR_len, List.length_replicate])
    intro i h1 h2
    have hi : i < N := by rw [fsR_len] at h1; exact h1
    rw [fsR_get, List.getElem_replicate]
    unfold cutF
    rcases key i hi with k | ⟨k, k2⟩
    · rw [if_neg k]
    · rw [if_pos (by omega)]; exact k
end
theorem gspec_exB {N : Nat} {ps : List (Int × Int)} (hok : GOk (N : Int) ps) : ∃ lab rk, GSpec N ps lab rk ∧ ∀ i, i < N → rk.getD i 0 ≤ 42 := by
  have hN : N ≤ 40 := by have := hok.n40; omega
  obtain ⟨s, hs⟩ := bnd_run hok hN N 0 _ (initS_bnd hok.ix hN) (Nat.zero_le _) (Nat.sub_le _ _)
  refine ⟨s.lab, s.rk, hs.spec hok.ix, fun i hi => ?_⟩
  have hq := hs.qlen.1
  obtain ⟨⟨C, r, h1, h2, h3, h4, h5⟩, -⟩ := hs
  rcases h1.lo i hi with e | e | e
  · have := (h1.inn i hi e).1; omega
  · have := (h1.out i hi e).1; omega
  · have := h1.und i hi e; omega
end Go.Proofs.Ytghnojmaciljoaa
