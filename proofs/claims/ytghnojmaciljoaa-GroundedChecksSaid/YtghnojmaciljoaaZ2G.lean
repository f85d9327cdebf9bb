/- The rounds as the reference goes them: after each round what has been decided is what the grounded labelling decides up to that rank. The reference's Attackers and keep.Graph at up to 2000 attacks. The reference's build: the same labelling and ranks. The reference's Label and Ranks; the law GroundedLabels: for every list of numbers it answers true. -/
import Derived.Test.YtghnojmaciljoaaZ2M1M
import Derived.Test.YtghnojmaciljoaaG1I
import Derived.Test.YtghnojmaciljoaaZ2L1M

namespace Go.Proofs.Ytghnojmaciljoaa
set_option linter.unusedVariables false
set_option linter.unusedSimpArgs false
open Go Go.RowKit Go.Sort

theorem inL_ins {N : Int} {ps : List (Int × Int)} (hok : GOk N ps) (i : Nat) : inL ps (i : Int) = intsN (ins ps i) := by
  unfold inL intsN ins
  rw [List.map_map]
  refine List.map_congr_left fun p hp => ?_
  have := hok.ix p (List.mem_filter.1 hp).1
  simp only [Function.comp]
  omega
theorem ins_lt {N : Int} {ps : List (Int × Int)} (hok : GOk N ps) (i : Nat) : ∀ k ∈ ins ps i, (k : Int) < N := fun k hk => by
  unfold ins at hk
  obtain ⟨p, hp, rfl⟩ := List.mem_map.1 hk
  have := hok.ix p (List.mem_filter.1 hp).1
  omega
def frB (before : List Int) (ps : List (Int × Int)) (i : Nat) : Bool := decide (before.getD i 0 = 3) && (ins ps i).all fun k => decide (before.getD k 0 = 2)
def inS (before : List Int) (ps : List (Int × Int)) (t : Int) (s : List Int × List Int × Bool) (i : Nat) : List Int × List Int × Bool := if frB before ps i = true then (s.1.set i 1, s.2.1.set i t, true) else s
def outS (t : Int) (i : Nat) (s : List Int × List Int) (k : Nat) : List Int × List Int := if s.1.getD i 0 = 3 ∧ s.1.getD k 0 = 1 ∧ s.2.getD k 0 = t then (s.1.set i 2, s.2.set i t) else s

theorem fsR_getD {N : Nat} {f : Nat → Int} {i : Nat} (h : i < N) : (fsR N f).getD i 0 = f i := by
  rw [getD_at (by rw [fsR_len]; exact h), fsR_get]
def cutF (g r : List Int) (z : Int) (t : Int) (i : Nat) : Int := if r.getD i 0 < t then g.getD i 0 else z
def inT (gl gr : List Int) (t : Int) (i : Nat) : Bool := decide (gl.getD i 0 = 1) && decide (gr.getD i 0 = t)
def outT (gl gr : List Int) (t : Int) (i : Nat) : Bool := decide (gl.getD i 0 = 2) && decide (gr.getD i 0 = t)
def midF (gl gr : List Int) (t : Int) (j : Nat) (i : Nat) : Int := if i < j ∧ inT gl gr t i = true then 1 else cutF gl gr 3 t i
def midG (gl gr : List Int) (t : Int) (j : Nat) (i : Nat) : Int := if i < j ∧ inT gl gr t i = true then t else cutF gr gr 0 t i
def endF (gl gr : List Int) (t : Int) (j : Nat) (i : Nat) : Int := if inT gl gr t i = true then 1 else if i < j ∧ outT gl gr t i = true then 2 else cutF gl gr 3 t i
def endG (gl gr : List Int) (t : Int) (j : Nat) (i : Nat) : Int := if inT gl gr t i = true then t else if i < j ∧ outT gl gr t i = true then t else cutF gr gr 0 t i

section
variable {N : Nat} {ps : List (Int × Int)} (hix : ∀ p ∈ ps, (0 ≤ p.1 ∧ p.1 < (N : Int)) ∧ (0 ≤ p.2 ∧ p.2 < (N : Int))) {gl gr : List Int} (h : GSpec N ps gl gr) {t : Int} (ht : 1 ≤ t)
include hix h ht

theorem free_in {i : Nat} (hi : i < N) : frB (fsR N (cutF gl gr 3 t)) ps i = inT gl gr t i := by
  have cut : ∀ k, k < N → ((fsR N (cutF gl gr 3 t)).getD k 0 = 2 ↔ gr.getD k 0 < t ∧ gl.getD k 0 = 2) := fun k hk => by
    rw [fsR_getD hk]; unfold cutF
    split
    · rename_i hlt; exact ⟨fun e => ⟨hlt, e⟩, fun e => e.2⟩
    · rename_i hlt; exact ⟨fun e => by omega, fun e => absurd e.1 hlt⟩
  have hc := h.complete
  rw [Bool.eq_iff_iff]
  unfold frB inT
  rw [Bool.and_eq_true, Bool.and_eq_true, decide_eq_true_eq, decide_eq_true_eq, decide_eq_true_eq, List.all_eq_true]
  rw [fsR_getD hi]
  constructor
  · rintro ⟨h3, hall⟩
    have hall2 : ∀ k, At ps k i → gr.getD k 0 < t ∧ gl.getD k 0 = 2 := fun k hk => (cut k (at_lt hix hk).1).1 (of_decide_eq_true (hall k ((mem_ins hix).2 hk)))
    have e1 := (hc.one i hi).2 fun k hk => (hall2 k hk).2
    obtain ⟨g1, g2, g3⟩ := h.inn i hi e1
    have hge : ¬ gr.getD i 0 < t := fun hlt => by unfold cutF at h3; rw [if_pos hlt] at h3; omega
    rcases g3 with g3 | ⟨k, hk, g3⟩
    · exact ⟨e1, by omega⟩
    · have := (hall2 k hk).1; exact ⟨e1, by omega⟩
  · rintro ⟨e1, e2⟩
    obtain ⟨g1, g2, g3⟩ := h.inn i hi e1
    refine ⟨by unfold cutF; rw [if_neg (by omega)], fun k hk => ?_⟩
    have hat := (mem_ins hix).1 hk
    exact decide_eq_true ((cut k (at_lt hix hat).1).2 ⟨by have := (g2 k hat).2; omega, (g2 k hat).1⟩)
theorem in_all (j : Nat) (hj : j ≤ N) : (List.range j).foldl (inS (fsR N (cutF gl gr 3 t)) ps t) (fsR N (cutF gl gr 3 t), fsR N (cutF gr gr 0 t), false) = (fsR N (midF gl gr t j), fsR N (midG gl gr t j), (List.range j).any (inT gl gr t)) := by
  induction j with
  | zero =>
    have e1 : fsR N (midF gl gr t 0) = fsR N (cutF gl gr 3 t) := fsR_congr fun i _ => by unfold midF; rw [if_neg (fun h => Nat.not_lt_zero i h.1)]
    have e2 : fsR N (midG gl gr t 0) = fsR N (cutF gr gr 0 t) := fsR_congr fun i _ => by unfold midG; rw [if_neg (fun h => Nat.not_lt_zero i h.1)]
    rw [e1, e2]; rfl
  | succ j ih =>
    rw [List.range_succ, List.foldl_append, ih (by omega), List.any_append]
    show inS _ _ _ _ j = _
    unfold inS
    rw [free_in hix h ht (by omega)]
    cases hb : inT gl gr t j
    · rw [if_neg (by decide)]
      have e1 : fsR N (midF gl gr t (j + 1)) = fsR N (midF gl gr t j) := fsR_congr fun i _ => by
        unfold midF
        by_cases e : i = j
        · subst e; rw [hb]; simp
        · simp only [show (i < j + 1) = (i < j) by rw [eq_iff_iff]; omega]
      have e2 : fsR N (midG gl gr t (j + 1)) = fsR N (midG gl gr t j) := fsR_congr fun i _ => by
        unfold midG
        by_cases e : i = j
        · subst e; rw [hb]; simp
        · simp only [show (i < j + 1) = (i < j) by rw [eq_iff_iff]; omega]
      rw [e1, e2]
      simp [hb]
    · rw [if_pos rfl]
      simp only
      rw [fsR_set, fsR_set]
      have e1 : fsR N (midF gl gr t (j + 1)) = fsR N (fun i => if i = j then 1 else midF gl gr t j i) := fsR_congr fun i _ => by
        unfold midF
        by_cases e : i = j
        · subst e; rw [hb]; simp
        · rw [if_neg e]; simp only [show (i < j + 1) = (i < j) by rw [eq_iff_iff]; omega]
      have e2 : fsR N (midG gl gr t (j + 1)) = fsR N (fun i => if i = j then t else midG gl gr t j i) := fsR_congr fun i _ => by
        unfold midG
        by_cases e : i = j
        · subst e; rw [hb]; simp
        · rw [if_neg e]; simp only [show (i < j + 1) = (i < j) by rw [eq_iff_iff]; omega]
      rw [e1, e2]
      simp [hb]
omit hix h ht in
theorem mid_end : fsR N (midF gl gr t N) = fsR N (endF gl gr t 0) ∧ fsR N (midG gl gr t N) = fsR N (endG gl gr t 0) := by
  constructor
  · refine fsR_congr fun i hi => ?_
    unfold midF endF
    simp [hi]
  · refine fsR_congr fun i hi => ?_
    unfold midG endG
    simp [hi]
omit hix in
theorem end_cut : fsR N (endF gl gr t N) = fsR N (cutF gl gr 3 (t + 1)) ∧ fsR N (endG gl gr t N) = fsR N (cutF gr gr 0 (t + 1)) := by
  have key : ∀ i, i < N → (inT gl gr t i = true → gl.getD i 0 = 1 ∧ gr.getD i 0 = t) ∧ (outT gl gr t i = true → gl.getD i 0 = 2 ∧ gr.getD i 0 = t) ∧ (inT gl gr t i = false → outT gl gr t i = false → gr.getD i 0 ≠ t) := fun i hi => by
    unfold inT outT
    refine ⟨fun e => by simpa using e, fun e => by simpa using e, fun e1 e2 e3 => ?_⟩
    rw [e3, decide_eq_true rfl, Bool.and_true] at e1 e2
    have := of_decide_eq_false e1
    have := of_decide_eq_false e2
    rcases h.lo i hi with f | f | f
    · contradiction
    · contradiction
    · have := h.und i hi f; omega
  constructor
  · refine fsR_congr fun i hi => ?_
    obtain ⟨k1, k2, k3⟩ := key i hi
    unfold endF cutF
    cases e1 : inT gl gr t i
    · rw [if_neg (by decide)]
      cases e2 : outT gl gr t i
      · have := k3 e1 e2
        rw [if_neg (fun hh => by cases hh.2)]
        by_cases hlt : gr.getD i 0 < t
        · rw [if_pos hlt, if_pos (by omega)]
        · rw [if_neg hlt, if_neg (by omega)]
      · obtain ⟨f1, f2⟩ := k2 e2
        rw [if_pos ⟨hi, rfl⟩, if_pos (by omega), f1]
    · obtain ⟨f1, f2⟩ := k1 e1
      rw [if_pos rfl, if_pos (by omega), f1]
  · refine fsR_congr fun i hi => ?_
    obtain ⟨k1, k2, k3⟩ := key i hi
    unfold endG cutF
    cases e1 : inT gl gr t i
    · rw [if_neg (by decide)]
      cases e2 : outT gl gr t i
      · have := k3 e1 e2
        rw [if_neg (fun hh => by cases hh.2)]
        by_cases hlt : gr.getD i 0 < t
        · rw [if_pos hlt, if_pos (by omega)]
        · rw [if_neg hlt, if_neg (by omega)]
      · obtain ⟨f1, f2⟩ := k2 e2
        rw [if_pos ⟨hi, rfl⟩, if_pos (by omega), f2]
    · obtain ⟨f1, f2⟩ := k1 e1
      rw [if_pos rfl, if_pos (by omega), f2]
omit ht in
theorem out_inner {i : Nat} (hi : i < N) : (ins ps i).foldl (outS t i) (fsR N (endF gl gr t i), fsR N (endG gl gr t i)) = (fsR N (endF gl gr t (i + 1)), fsR N (endG gl gr t (i + 1))) := by
  have hlk : ∀ k, k < N → (((fsR N (endF gl gr t i)).getD k 0 = 1 ∧ (fsR N (endG gl gr t i)).getD k 0 = t) ↔ inT gl gr t k = true) := fun k hk => by
    rw [fsR_getD hk, fsR_getD hk]
    unfold endF endG
    cases e1 : inT gl gr t k
    · simp only [Bool.false_eq_true, if_false]
      constructor
      · rintro ⟨a1, a2⟩
        by_cases hn : k < i ∧ outT gl gr t k = true
        · rw [if_pos hn] at a1; omega
        · rw [if_neg hn] at a1 a2
          unfold cutF at a1 a2
          by_cases hlt : gr.getD k 0 < t
          · rw [if_pos hlt] at a2; omega
          · rw [if_neg hlt] at a1; omega
      · intro e; cases e
    · rw [if_pos rfl, if_pos rfl]
      exact ⟨fun _ => rfl, fun _ => ⟨rfl, rfl⟩⟩
  have S1 : ∀ (l : List Nat), l.foldl (outS t i) ((fsR N (endF gl gr t i)).set i 2, (fsR N (endG gl gr t i)).set i t) = ((fsR N (endF gl gr t i)).set i 2, (fsR N (endG gl gr t i)).set i t) := by
    intro l
    induction l with
    | nil => rfl
    | cons k l ih =>
      rw [List.foldl_cons]
      have : outS t i ((fsR N (endF gl gr t i)).set i 2, (fsR N (endG gl gr t i)).set i t) k = ((fsR N (endF gl gr t i)).set i 2, (fsR N (endG gl gr t i)).set i t) := by
        unfold outS
        rw [if_neg]
        rintro ⟨e, -⟩
        simp only at e
        rw [set_getD _ _ _ _ (by rw [fsR_len]; exact hi), if_pos rfl] at e
        omega
      rw [this]; exact ih
  have S0 : ∀ (l : List Nat), (∀ k ∈ l, k < N) → l.foldl (outS t i) (fsR N (endF gl gr t i), fsR N (endG gl gr t i)) = if (fsR N (endF gl gr t i)).getD i 0 = 3 ∧ l.any (inT gl gr t) = true then ((fsR N (endF gl gr t i)).set i 2, (fsR N (endG gl gr t i)).set i t) else (fsR N (endF gl gr t i), fsR N (endG gl gr t i)) := by
    intro l
    induction l with
    | nil => intro _; rw [if_neg (fun hh => by cases hh.2)]; rfl
    | cons k l ih =>
      intro hl
      rw [List.foldl_cons]
      have hk := hlk k (hl k (List.mem_cons_self ..))
      by_cases hc : (fsR N (endF gl gr t i)).getD i 0 = 3 ∧ inT gl gr t k = true
      · have : outS t i (fsR N (endF gl gr t i), fsR N (endG gl gr t i)) k = ((fsR N (endF gl gr t i)).set i 2, (fsR N (endG gl gr t i)).set i t) := by
          unfold outS
          exact if_pos ⟨hc.1, hk.2 hc.2⟩
        rw [this, S1, if_pos ⟨hc.1, by rw [List.any_cons, hc.2]; rfl⟩]
      · have : outS t i (fsR N (endF gl gr t i), fsR N (endG gl gr t i)) k = (fsR N (endF gl gr t i), fsR N (endG gl gr t i)) := by
          unfold outS
          exact if_neg fun hh => hc ⟨hh.1, hk.1 hh.2⟩
        rw [this, ih fun x hx => hl x (List.mem_cons_of_mem _ hx)]
        by_cases e3 : (fsR N (endF gl gr t i)).getD i 0 = 3
        · have : inT gl gr t k = false := by
            cases hh : inT gl gr t k
            · rfl
            · exact absurd ⟨e3, hh⟩ hc
          simp only [List.any_cons, this, Bool.false_or]
        · rw [if_neg (fun hh => e3 hh.1), if_neg (fun hh => e3 hh.1)]
  rw [S0 _ (fun k hk => (at_lt hix ((mem_ins hix).1 hk)).1)]
  have hval : (fsR N (endF gl gr t i)).getD i 0 = if inT gl gr t i = true then 1 else cutF gl gr 3 t i := by
    rw [fsR_getD hi]; unfold endF; simp
  have hmain : ((fsR N (endF gl gr t i)).getD i 0 = 3 ∧ (ins ps i).any (inT gl gr t) = true) ↔ outT gl gr t i = true := by
    rw [hval]
    have hinT : ∀ k, inT gl gr t k = true ↔ gl.getD k 0 = 1 ∧ gr.getD k 0 = t := fun k => by unfold inT; simp
    have houtT : outT gl gr t i = true ↔ gl.getD i 0 = 2 ∧ gr.getD i 0 = t := by unfold outT; simp
    rw [houtT, List.any_eq_true]
    constructor
    · rintro ⟨e3, k, hk, hkt⟩
      have hat := (mem_ins hix).1 hk
      obtain ⟨k1, k2⟩ := (hinT k).1 hkt
      have e2 := (h.complete.two i hi).2 ⟨k, hat, k1⟩
      obtain ⟨o1, o2, o3⟩ := h.out i hi e2
      have := o3 k hat k1
      have hnin : ¬ (inT gl gr t i = true) := fun hh => by have := ((hinT i).1 hh).1; omega
      rw [if_neg hnin] at e3
      unfold cutF at e3
      by_cases hlt : gr.getD i 0 < t
      · rw [if_pos hlt] at e3; omega
      · exact ⟨e2, by omega⟩
    · rintro ⟨e2, e3⟩
      obtain ⟨o1, ⟨k, hk, k1, k2⟩, o3⟩ := h.out i hi e2
      have hnin : ¬ (inT gl gr t i = true) := fun hh => by have := ((hinT i).1 hh).1; omega
      refine ⟨?_, k, (mem_ins hix).2 hk, (hinT k).2 ⟨k1, by omega⟩⟩
      rw [if_neg hnin]
      unfold cutF
      rw [if_neg (by omega)]
  by_cases hc : outT gl gr t i = true
  · rw [if_pos (hmain.2 hc), fsR_set, fsR_set]
    have hnin : inT gl gr t i = false := by
      cases hh : inT gl gr t i
      · rfl
      · unfold inT at hh; unfold outT at hc
        simp at hh hc
        omega
    congr 1
    · refine fsR_congr fun x hx => ?_
      unfold endF
      by_cases e : x = i
      · subst e; simp [hnin, hc]
      · rw [if_neg e]; simp only [show (x < i + 1) = (x < i) by rw [eq_iff_iff]; omega]
    · refine fsR_congr fun x hx => ?_
      unfold endG
      by_cases e : x = i
      · subst e; simp [hnin, hc]
      · rw [if_neg e]; simp only [show (x < i + 1) = (x < i) by rw [eq_iff_iff]; omega]
  · rw [if_neg (fun hh => hc (hmain.1 hh))]
    congr 1
    · refine fsR_congr fun x hx => ?_
      unfold endF
      by_cases e : x = i
      · subst e; simp [hc]
      · simp only [show (x < i + 1) = (x < i) by rw [eq_iff_iff]; omega]
    · refine fsR_congr fun x hx => ?_
      unfold endG
      by_cases e : x = i
      · subst e; simp [hc]
      · simp only [show (x < i + 1) = (x < i) by rw [eq_iff_iff]; omega]
omit ht in
theorem out_all (j : Nat) (hj : j ≤ N) : (List.range j).foldl (fun s i => (ins ps i).foldl (outS t i) s) (fsR N (endF gl gr t 0), fsR N (endG gl gr t 0)) = (fsR N (endF gl gr t j), fsR N (endG gl gr t j)) := by
  induction j with
  | zero => rfl
  | succ j ih =>
    rw [List.range_succ, List.foldl_append, ih (by omega)]
    show (ins ps j).foldl (outS t j) _ = _
    exact out_inner hix h (by omega)
/-- The round that changes nothing is the last. -/
theorem last_round (hno : (List.range N).any (inT gl gr t) = false) : fsR N (cutF gl gr 3 (t + 1)) = gl ∧ fsR N (cutF gr gr 0 (t + 1)) = gr := by
  rw [List.any_eq_false] at hno
  have hin : ∀ (d : Nat) (i : Nat), i < N → gl.getD i 0 = 1 → gr.getD i 0 ≠ t + d := by
    intro d
    induction d with
    | zero =>
      intro i hi e1 e2
      refine hno i (List.mem_range.2 hi) ?_
      unfold inT
      rw [decide_eq_true e1, decide_eq_true (by omega)]; rfl
    | succ d ih =>
      intro i hi e1 e2
      obtain ⟨g1, g2, g3⟩ := h.inn i hi e1
      rcases g3 with g3 | ⟨k, hk, g3⟩
      · omega
      · have hkN := (at_lt hix hk).1
        obtain ⟨-, ⟨m, hm, m1, m2⟩, -⟩ := h.out k hkN (g2 k hk).1
        exact ih m (at_lt hix hm).1 m1 (by omega)
  have hall : ∀ i, i < N → gr.getD i 0 < t + 1 := fun i hi => by
    refine Classical.byContradiction fun hge => ?_
    rcases h.lo i hi with e | e | e
    · exact hin (gr.getD i 0 - t).toNat i hi e (by omega)
    · obtain ⟨-, ⟨m, hm, m1, m2⟩, -⟩ := h.out i hi e
      exact hin (gr.getD i 0 - t).toNat m (at_lt hix hm).1 m1 (by omega)
    · have := h.und i hi e; omega
  constructor
  · refine getD_eq (N := N) (fsR_len _ _) h.ll fun i hi => ?_
    rw [fsR_getD hi]; unfold cutF; rw [if_pos (hall i hi)]
  · refine getD_eq (N := N) (fsR_len _ _) h.rl fun i hi => ?_
    rw [fsR_getD hi]; unfold cutF; rw [if_pos (hall i hi)]
omit hix ht in
theorem cut_start : fsR N (cutF gl gr 3 1) = List.replicate N 3 ∧ fsR N (cutF gr gr 0 1) = List.replicate N 0 := by
  have key : ∀ i, i < N → ¬ gr.getD i 0 < 1 ∨ (gr.getD i 0 = 0 ∧ gl.getD i 0 = 3) := fun i hi => by
    rcases h.lo i hi with e | e | e
    · have := (h.inn i hi e).1; exact .inl (by omega)
    · have := (h.out i hi e).1; exact .inl (by omega)
    · exact .inr ⟨(h.und i hi e).1, e⟩
  constructor
  · apply List.ext_getElem (by rw [fsR_len, List.length_replicate])
    intro i h1 h2
    have hi : i < N := by rw [fsR_len] at h1; exact h1
    rw [fsR_get, List.getElem_replicate]
    unfold cutF
    rcases key i hi with k | ⟨k, k2⟩
    · rw [if_neg k]
    · rw [if_pos (by omega)]; exact k2
  · apply List.ext_getElem (by rw [fsR_len, List.length_replicate])
    intro i h1 h2
    have hi : i < N := by rw [fsR_len] at h1; exact h1
    rw [fsR_get, List.getElem_replicate]
    unfold cutF
    rcases key i hi with k | ⟨k, k2⟩
    · rw [if_neg k]
    · rw [if_pos (by omega)]; exact k
end
theorem gspec_exB {N : Nat} {ps : List (Int × Int)} (hok : GOk (N : Int) ps) : ∃ lab rk, GSpec N ps lab rk ∧ ∀ i, i < N → rk.getD i 0 ≤ 42 := by
  have hN : N ≤ 40 := by have := hok.n40; omega
  obtain ⟨s, hs⟩ := bnd_run hok hN N 0 _ (initS_bnd hok.ix hN) (Nat.zero_le _) (Nat.sub_le _ _)
  refine ⟨s.lab, s.rk, hs.spec hok.ix, fun i hi => ?_⟩
  have hq := hs.qlen.1
  obtain ⟨⟨C, r, h1, h2, h3, h4, h5⟩, -⟩ := hs
  rcases h1.lo i hi with e | e | e
  · have := (h1.inn i hi e).1; omega
  · have := (h1.out i hi e).1; omega
  · have := h1.und i hi e; omega
end Go.Proofs.Ytghnojmaciljoaa

namespace Go.Proofs.Ytghnojmaciljoaa
set_option linter.unusedVariables false
set_option linter.unusedSimpArgs false
open Go Go.RowKit Go.Sort

theorem OwnI.low {w : World} {B B' : Nat} {v : Value} {zs : List Int} (h : OwnI w B v zs) (hB : B' ≤ B) : OwnI w B' v zs := by
  unfold OwnI World.ownsRow at h ⊢
  obtain ⟨hl, h⟩ := h
  refine ⟨hl, ?_⟩
  rcases h with h | ⟨g, cap, cur, hv, hb, hr⟩
  · exact .inl h
  · exact .inr ⟨g, cap, cur, hv, Nat.le_trans hB hb, hr⟩
set_option maxRecDepth 100000 in
set_option maxHeartbeats 2000000 in
theorem rgAttackers2_any (n : Int) (v : Value) (xs : List (Int × Int)) (i : Int) (w : World) (h : PairsAt w v xs) (hl : xs.length ≤ 2000) :
    Calls Try.prog 34 #[.agg #[.int .i64 n, v], .int .i64 i] w fun e w' => ∃ v', e = .returned v' ∧ OwnI w' w.heap.size v' (inL (vL n xs) i) ∧ Below w.heap.size w w' := by
  have hB := bgrow w (.cells #[.int .i64 n, v] 27)
  have h1 := h.below hB
  have HV := hidIt (h.valid n)
  obtain ⟨a, c, rfl, -⟩ := h.form
  have HX := hidIt (heap_alloc_new w (.cells #[.int .i64 n, .slice a xs.length c] 27))
  have HB := hidIt hB
  have H1 := hidIt h1
  have HL := hidIt hl
  clear h h1 hB hl
  go_enter Try.func34, Try.ntmps34
  go_upto_region 1 with (fail)
  generalize (w.alloc (.cells #[.int .i64 n, .slice a xs.length c] 27)) = w1 at *
  obtain ⟨x0, x1⟩ := And.intro (cell_two0 HX.out) (cell_two1 HX.out)
  have lx := lt_of_block HX.out
  go_wp2_with fail
  refine (rgvalid_any n _ xs _ H1.out (by have := HL.out; omega)).mono ?_
  rintro e w2 ⟨rfl, hb⟩
  have HX2 := hidIt (blk_kept2 HX.out hb)
  have HLN : Hid ((vL n xs).length ≤ 2000) := Nat.le_trans (vL_len n xs) HL.out
  have HB2 := hidIt (HB.out.trans (Below.mono hb HB.out.size))
  have HP := hidIt (HV.out.below HB2.out)
  clear hb x0 x1 lx HX H1 HL HB
  generalize hps : vL n xs = ps at *
  have HPS := hidIt hps
  clear hps
  generalize vN n xs = m at *
  generalize vV n xs _ = v' at *
  obtain ⟨a', c', rfl, hpc⟩ := HV.out.pc
  have HB3 := hidIt (below_set5 (i := 1) (u := .slice a' ps.length c') (below_set5 (i := 0) (u := .int .i64 m) HB2.out (Nat.le_refl _)) (Nat.le_refl _))
  have HX3 := hidIt (box_set2 (x := .int .i64 m) (y := .slice a' ps.length c') HX2.out)
  have HPC := hidIt (hpc.go HB3.out)
  obtain ⟨x0, x1⟩ := And.intro (cell_two0 HX2.out) (cell_two1 HX2.out)
  have lx := lt_of_block HX2.out
  have f0 := free_any HX2.out 0
  have f1 := free_any HX2.out 1
  clear hpc
  go_upto_region 3 with (fail)
  generalize ((w2.setCell ⟨w.heap.size, 0, none⟩ (.int .i64 m)).setCell ⟨w.heap.size, 1, none⟩ (.slice a' ps.length c')) = w3 at *
  generalize w.heap.size = P at HX3 HX2 ⊢
  clear x0 x1 lx f0 f1
  obtain ⟨M, hM⟩ : ∃ M, M = ps.length := ⟨_, rfl⟩
  have HM := hidIt hM
  rw [← hM] at HX3 HLN ⊢
  clear hM
  have hMn := HLN.out
  obtain ⟨x0, x1⟩ := And.intro (cell_two0 HX3.out) (cell_two1 HX3.out)
  have lx := lt_of_block HX3.out
  obtain ⟨B, hB⟩ : ∃ B, B = w3.heap.size := ⟨_, rfl⟩
  have HBq := hidIt hB
  clear hB
  go_wp2_with fail
  go_loopw [5, 6] (fun v5 vk wr => ∃ (k : Nat) (zs : List Int) (za : Option Addr) (zc : Nat), v5 = .slice za zs.length zc ∧ vk = .int .i64 k ∧ k ≤ M ∧ Hid (zs = inL (ps.take k) i) ∧ Hid (OwnI wr B (.slice za zs.length zc) zs) ∧ Hid (Below B w3 wr)) (fun _ vk _ => M - (intOf vk).toNat)
  case atStart => exact ⟨0, [], none, 0, rfl, (by first | rfl | trivial), Nat.zero_le _, (rfl : [] = inL (ps.take 0) i), OwnI.nil _ _, Below.refl _ _⟩
  case round =>
    obtain ⟨k, zs, za, zc, rfl, rfl, hk, HZ, HO, HBr⟩ := hrel
    have hkI0 : (0 : Int) ≤ (k : Int) := by omega
    have HBr3 : Hid (Below w3.heap.size w3 wr) := by show Below _ _ _; rw [← HBq.out]; exact HBr.out
    have HXr := hidIt (blk_kept2 HX3.out HBr3.out)
    have x0 := cell_two0 HXr.out
    have x1 := cell_two1 HXr.out
    have lx := lt_of_block HXr.out
    by_cases hlt : k < M
    · have hkI : (k : Int) < (M : Int) := by omega
      have HLT : Hid (k < ps.length) := by show k < _; rw [← HM.out]; exact hlt
      obtain ⟨b, off, rfl, lb, hcs⟩ := (HPC.out.go HBr3.out).at_ HLT.out
      obtain ⟨p0, p1⟩ := hcs k HLT.out
      obtain ⟨x, hx⟩ : ∃ x, x = ps[k]'HLT.out := ⟨_, rfl⟩
      rw [← hx] at p0 p1
      have HST : Hid (inL (ps.take (k + 1)) i = zs ++ if (ps[k]'HLT.out).2 == i then [(ps[k]'HLT.out).1] else []) := by show _ = _; rw [inL_step HLT.out, ← HZ.out]
      rw [← hx] at HST
      clear hx hcs
      obtain ⟨gx, sx⟩ := x
      simp only at p0 p1
      have hzl : zs.length ≤ 2000 := by
        have h1 := inL_len (ps.take k) i
        rw [← HZ.out] at h1
        rw [List.length_take] at h1
        have := HM.out
        omega
      have HBn := HBr
      have HOn := HO
      clear HBr HO
      obtain ⟨w4, hw4⟩ : ∃ w4, w4 = wr := ⟨_, rfl⟩
      subst hw4
      by_cases he : sx = i
      · have hb1 : (sx == i) = true := beq_iff_eq.2 he
        have HE : Hid (inL (ps.take (k + 1)) i = zs ++ [gx]) := by show _ = _; rw [HST.out]; simp only [hb1, if_true]
        clear he HST
        obtain ⟨L, hL⟩ : ∃ L, L = zs.length := ⟨_, rfl⟩
        have HLL := hidIt hL
        have HO7 : Hid (World.ownsRow (w4.alloc (.cells #[.int .i64 gx] 3)) B 3 1 (.slice za L zc) L (zs.map (Value.int .i64))) := by
          have h := HOn.out.go (bgrow w4 (.cells #[.int .i64 gx] 3))
          unfold OwnI at h
          rw [← hL] at h
          exact h
        have hBsz : B ≤ w4.heap.size := by have := HBn.out.size; have := HBq.out; omega
        have HB7 := hidIt (HBn.out.trans (Below.mono (bgrow w4 (.cells #[.int .i64 gx] 3)) hBsz))
        have hsz7 : B ≤ (w4.alloc (.cells #[.int .i64 gx] 3)).heap.size := Nat.le_trans hBsz (bgrow w4 _).size
        rw [← hL] at hzl ⊢
        clear hL HBn HOn hBsz
        go_wp2_with (at_builtin; refine Hid.out ?_)
        refine hidIt ?_
        refine wpList_append_kb rfl _ _ elemI rfl B (.slice za L zc) L _ rfl HO7.out _ 1 rfl #[.int .i64 gx] 3 (heap_alloc_new _ _) rfl (one_of (by rfl)) (by omega) hsz7 ?_
        intro g8 c8 w8 hown8 hg8 hbl8
        have HB8 := hidIt (below_app5 HB7.out hg8 (fun g e => (owns_blk HO7.out g e).1) hsz7)
        have HL8 : Hid ((zs ++ [gx]).length = L + 1) := by show _ = _; rw [List.length_append, HLL.out]; rfl
        have HO8 : Hid (OwnI w8 B (.slice (some ⟨g8, 0, none⟩) (L + 1) c8) (zs ++ [gx])) := by
          show World.ownsRow _ _ _ _ _ _ _
          rw [HL8.out, List.map_append]
          exact hown8
        clear hown8 hg8 hbl8 HO7 HB7 hsz7
        go_wp2_with fail
        go_roundw
        case rel => exact ⟨k + 1, zs ++ [gx], some ⟨g8, 0, none⟩, c8, (by rw [HL8.out]), by go_num, by omega, HE.out.symm, (by rw [HL8.out]; exact HO8.out), HB8.out⟩
        case measure => simp [intOf]; omega
      · have hb1 : (sx == i) = false := beq_eq_false_iff_ne.2 he
        have HE : Hid (inL (ps.take (k + 1)) i = zs) := by show _ = _; rw [HST.out]; simp [hb1]
        clear he HST
        go_wp2_with fail
        go_roundw
        case rel => exact ⟨k + 1, zs, za, zc, rfl, by go_num, by omega, HE.out.symm, HOn.out, HBn.out⟩
        case measure => simp [intOf]; omega
    · have hkI : ¬ (k : Int) < (M : Int) := by omega
      have HE : Hid (zs = inL ps i) := by
        have := HZ.out
        rwa [List.take_of_length_le (by rw [← HM.out]; omega)] at this
      have HIL := hidIt (OwnI.low HO.out (show w.heap.size ≤ B by rw [HBq.out]; exact HB3.out.size))
      have HBF := hidIt (HB3.out.trans (Below.mono HBr3.out HB3.out.size))
      go_wp2_with fail
      go_ret
      rw [HPS.out, ← HE.out]
      exact ⟨_, rfl, HIL.out, HBF.out⟩


/-- What a call that reads a graph hands back. -/
def GraphOut2 (w : World) (B b : Nat) (zs : List Int) (n : Nat) (e : Ending) (w' : World) : Prop :=
  ∃ (N : Nat) (ps : List (Int × Int)) (a : Option Addr) (c k : Nat), e = .returned (.agg #[.int .i64 (N : Int), .slice a ps.length c]) ∧ N ≤ n ∧ GOk (N : Int) ps ∧ ps.length ≤ 2000 ∧ OwnPairs w' w.heap.size (.slice a ps.length c) ps ∧ SrcAt w' B b zs k ∧ w.grownBy w' (some b)

set_option maxRecDepth 100000 in
set_option maxHeartbeats 8000000 in
theorem kGraph2_any (n : Nat) (hn : n ≤ 40) (B b : Nat) (zs : List Int) (k0 : Nat) (w : World) (hs : SrcAt w B b zs k0) :
    Calls Try.prog 9 #[.pointer (some ⟨b, 0, none⟩), .int .i64 (n : Int)] w (GraphOut2 w B b zs n) := by
  have hb := hs.lt
  have HS1 := hidIt (hs.alloc (.cells #[.int .i64 0, .slice none 0 0] 27))
  have HG1 := hidIt (World.grownBy_alloc w (.cells #[.int .i64 0, .slice none 0 0] 27) (some b))
  have HR1 := hidIt (heap_alloc_new w (.cells #[.int .i64 0, .slice none 0 0] 27))
  have hwn : IntKind.i64.wrap ((n : Int) + 1) = (n : Int) + 1 := IntWalk.i64_in _ (by omega)
  clear hs
  go_enter Try.func9, Try.ntmps9
  go_upto_region 1 with (fail)
  generalize (w.alloc (.cells #[.int .i64 0, .slice none 0 0] 27)) = w1 at *
  go_wp2_with fail
  refine (sn_nat ((n : Int) + 1) (by omega) (by omega) B b zs _ w1 HS1.out).mono ?_
  rintro e w2 ⟨N, k2, rfl, hN, hs2, hg2⟩
  have HNN : Hid (N ≤ n) := by show N ≤ n; omega
  have hN20 : N ≤ 40 := by omega
  have hr2 := (hg2.block w.heap.size (lt_of_block HR1.out) (fun e => by injection e with e; omega)).trans HR1.out
  have HGS : Hid (GS w B b w.heap.size w2.heap.size zs (N : Int) (w2.alloc (.cells #[.int .i64 (N : Int), .slice none 0 0] 27)) (.slice none 0 0) []) :=
    ⟨hb, Nat.le_refl _, lt_of_block hr2, blk_kept2 hr2 (bgrow w2 _), heap_alloc_new w2 _, OwnP.nil _ _, ⟨k2, hs2.alloc _⟩, only_alloc (only_trans HG1.out hg2) _⟩
  clear hs2 hg2 hr2 HS1 HG1 HR1 hN
  go_upto_region 2 with (fail)
  generalize (w2.alloc (.cells #[.int .i64 (N : Int), .slice none 0 0] 27)) = w3 at *
  generalize w2.heap.size = Q at *
  obtain ⟨k3, hs3⟩ := HGS.out.src
  go_wp2_with fail
  refine (sn_nat 6 (by decide) (by decide) B b zs k3 w3 hs3).mono ?_
  rintro e w4 ⟨d, k4, rfl, hd, hs4, hg4⟩
  have HG4 := hidIt (HGS.out.call hs4 hg4)
  clear hs3 hs4 hg4 HGS
  go_wp2_with fail
  go_loopw [7, 8, 9] (fun vf _ _ wr => ∃ (f : Nat) (ps : List (Int × Int)) (a : Option Addr) (c : Nat), vf = .int .i64 (f : Int) ∧ f ≤ N ∧ Hid (Gen N f 0 ps) ∧ Hid (GS w B b w.heap.size Q zs (N : Int) wr (.slice a ps.length c) ps)) (fun vf _ _ _ => N - (intOf vf).toNat)
  case atStart => exact ⟨0, [], none, 0, (by first | rfl | trivial), Nat.zero_le _, Gen.nil N, HG4.out⟩
  case round =>
    clear HG4
    obtain ⟨f, ps0, a0, c0, rfl, hf, HGen0, HGS0⟩ := hrel
    have hf0 : (0 : Int) ≤ (f : Int) := by omega
    obtain ⟨x0, x1⟩ := And.intro (cell_two0 HGS0.out.box) (cell_two1 HGS0.out.box)
    have lx := lt_of_block HGS0.out.box
    by_cases hfl : f < N
    · have hfI : (f : Int) < (N : Int) := by omega
      go_wp2_with fail
      clear x0 x1 lx
      go_loopw [8, 9] (fun vt _ wr => ∃ (t : Nat) (ps : List (Int × Int)) (a : Option Addr) (c : Nat), vt = .int .i64 (t : Int) ∧ t ≤ N ∧ Hid (Gen N f t ps) ∧ Hid (GS w B b w.heap.size Q zs (N : Int) wr (.slice a ps.length c) ps)) (fun vt _ _ => N - (intOf vt).toNat)
      case atStart => exact ⟨0, ps0, a0, c0, (by first | rfl | trivial), Nat.zero_le _, HGen0.out, HGS0.out⟩
      case round =>
        clear HGen0 HGS0
        obtain ⟨t, ps, a, c, rfl, ht, HGen, HG⟩ := hrel
        have ht0 : (0 : Int) ≤ (t : Int) := by omega
        obtain ⟨x0, x1⟩ := And.intro (cell_two0 HG.out.box) (cell_two1 HG.out.box)
        have lx := lt_of_block HG.out.box
        by_cases htl : t < N
        · have htI : (t : Int) < (N : Int) := by omega
          obtain ⟨k5, hs5⟩ := HG.out.src
          have HS5 := hidIt hs5
          clear hs5
          go_wp2_with fail
          refine (sn_nat 12 (by decide) (by decide) B b zs k5 _ HS5.out).mono ?_
          rintro e w6 ⟨z, k6, rfl, hz, hs6, hg6⟩
          have HG6 := hidIt (HG.out.call hs6 hg6)
          have HSK := hidIt HGen.out.skip
          have HAD := hidIt (HGen.out.add hfl htl)
          have hpl : ps.length ≤ 2000 := by
            have h1 := HGen.out.len
            have h2 : f * N ≤ 39 * 40 := Nat.mul_le_mul (by omega) hN20
            omega
          clear hs6 hg6 HG HS5 x0 x1 lx
          obtain ⟨x0, x1⟩ := And.intro (cell_two0 HG6.out.box) (cell_two1 HG6.out.box)
          have lx := lt_of_block HG6.out.box
          by_cases hzd : (z : Int) < 1 + (d : Int)
          rotate_left
          · have hzb : decide ((z : Int) < 1 + (d : Int)) = false := decide_eq_false hzd
            go_wp2_with fail
            go_roundw
            case rel => exact ⟨t + 1, ps, a, c, by go_num, by omega, HSK.out, HG6.out⟩
            case measure => simp [intOf]; omega
          by_cases hft : f = t ∧ z ≠ 0
          · obtain ⟨hft1, hft2⟩ := hft
            have hb1 : ((f : Int) != (t : Int)) = false := by rw [hft1]; exact bne_self_eq_false _
            have hb2 : ((z : Int) == 0) = false := beq_eq_false_iff_ne.2 (by omega)
            clear hft1 hft2
            go_wp2_with fail
            go_roundw
            case rel => exact ⟨t + 1, ps, a, c, by go_num, by omega, HSK.out, HG6.out⟩
            case measure => simp [intOf]; omega
          have HG7 := hidIt (HG6.out.go (bgrow w6 (.cells #[.int .i64 (f : Int), .int .i64 (t : Int)] 43)))
          have hsz7 := HG7.out.lt
          obtain ⟨L, hL⟩ : ∃ L, L = ps.length := ⟨_, rfl⟩
          have HLL := hidIt hL
          rw [← hL] at hpl x1 HG7
          have HO7 : Hid (World.ownsRow (w6.alloc (.cells #[.int .i64 (f : Int), .int .i64 (t : Int)] 43)) (Q + 1) 43 2 (.slice a L c) L (ps.flatMap encP)) := by
            have h := HG7.out.own
            unfold OwnP at h
            rw [← HLL.out] at h
            exact h
          clear hL
          have hcase : (((f : Int) != (t : Int)) = true ∨ ((f : Int) != (t : Int)) = false ∧ ((z : Int) == 0) = true) := by
            by_cases e : f = t
            · right
              have hz0 : z = 0 := Classical.byContradiction fun h => hft ⟨e, h⟩
              exact ⟨by rw [e]; exact bne_self_eq_false _, by rw [hz0]; rfl⟩
            · left; exact bne_iff_ne.2 (by omega)
          clear hft
          rcases hcase with hb1 | ⟨hb1, hb2⟩
          all_goals (
            go_wp2_with (at_builtin; refine Hid.out ?_)
            refine hidIt ?_
            refine wpList_append_kb rfl _ _ elemP rfl (Q + 1) (.slice a L c) L _ rfl HO7.out _ 1 rfl #[.int .i64 (f : Int), .int .i64 (t : Int)] 43 (heap_alloc_new _ _) rfl (one_of (by rfl)) (by omega) hsz7 ?_
            intro g8 c8 w8 hown8 hg8 hbl8
            have HL8 : Hid ((ps ++ [((f : Int), (t : Int))]).length = L + 1) := by show _ = _; rw [List.length_append, HLL.out]; rfl
            have HG8 : Hid (GS w B b w.heap.size Q zs (N : Int) (w8.setCell ⟨Q, 1, none⟩ (.slice (some ⟨g8, 0, none⟩) (L + 1) c8)) (.slice (some ⟨g8, 0, none⟩) (L + 1) c8) (ps ++ [((f : Int), (t : Int))])) :=
              GS.app (x := ((f : Int), (t : Int))) HG7.out (by rw [← HLL.out]; exact hown8) hg8
            have hOB : ∀ g, (Value.slice a L c).ownBlock = some g → Q + 1 ≤ g := fun g e => (owns_blk HO7.out g e).1
            have hQ8 := (hg8.block Q (lt_of_block HG7.out.box) (fun e => by have := hOB _ e.symm; omega)).trans HG7.out.box
            have k0 := cell_two0 hQ8
            have k1 := cell_two1 hQ8
            have lk := lt_of_block hQ8
            have f8 := free_any hQ8 1
            clear hown8 hg8 hbl8 hOB HO7 HG7 HG6 hsz7 hQ8 x0 x1 lx
            go_wp2_with fail
            go_roundw
            case rel => exact ⟨t + 1, ps ++ [((f : Int), (t : Int))], some ⟨g8, 0, none⟩, c8, by go_num, by omega, HAD.out, (by rw [HL8.out]; exact HG8.out)⟩
            case measure => simp [intOf]; omega)
        · obtain rfl : t = N := by omega
          have htI : ¬ (t : Int) < (t : Int) := by omega
          have HRW := hidIt HGen.out.row
          go_wp2_with fail
          go_roundw
          case rel => exact ⟨f + 1, ps, a, c, by go_num, by omega, HRW.out, HG.out⟩
          case measure => simp [intOf]; omega
    · obtain rfl : f = N := by omega
      have hfI : ¬ (f : Int) < (f : Int) := by omega
      have hpl : Hid (ps0.length ≤ 2000) := by
        have h1 := HGen0.out.len
        have h2 : f * f ≤ 40 * 40 := Nat.mul_le_mul hN20 hN20
        show _ ≤ _
        omega
      have HOKK := hidIt (HGen0.out.ok (by omega))
      have r0 := cell_two0 HGS0.out.res
      have r1 := cell_two1 HGS0.out.res
      have lr := lt_of_block HGS0.out.res
      have g0 := free_any HGS0.out.res 0
      have g1 := free_any HGS0.out.res 1
      have hpq := HGS0.out.pq
      have HOF : Hid (∀ A C : Value, OwnPairs ((wr.setCell ⟨w.heap.size, 0, none⟩ A).setCell ⟨w.heap.size, 1, none⟩ C) w.heap.size (.slice a0 ps0.length c0) ps0) := fun A C => by
        refine (HGS0.out.own.own.kept (row := some w.heap.size) (only_setCell (only_setCell (only_refl wr (some w.heap.size)) (.inl rfl) _) (.inl rfl) _) (fun g e b2 cap2 hv2 => ?_)).mono (by omega)
        injection e with e
        have h1 := (owns_blk HGS0.out.own b2 (by rw [hv2]; rfl)).1
        omega
      have HSF : Hid (∀ A C : Value, ∃ k, SrcAt ((wr.setCell ⟨w.heap.size, 0, none⟩ A).setCell ⟨w.heap.size, 1, none⟩ C) B b zs k) := fun A C => by
        obtain ⟨k, hs⟩ := HGS0.out.src
        have hsb := hs.base
        exact ⟨k, (hs.setCell _ _ (by show B ≤ w.heap.size; omega) (by show w.heap.size ≠ b; omega)).setCell _ _ (by show B ≤ w.heap.size; omega) (by show w.heap.size ≠ b; omega)⟩
      have HGF : Hid (∀ A C : Value, w.grownBy ((wr.setCell ⟨w.heap.size, 0, none⟩ A).setCell ⟨w.heap.size, 1, none⟩ C) (some b)) := fun A C => only_setCell (only_setCell HGS0.out.gr (.inr (Nat.le_refl _)) _) (.inr (Nat.le_refl _)) _
      go_wp2_with fail
      refine bodyPost_ret (v := .agg #[.int .i64 (f : Int), .slice a0 ps0.length c0]) (by simp [results, Try.results9, go_sem, r0, r1, lr]) rfl ?_
      obtain ⟨k9, hk9⟩ := HSF.out (.int .i64 (f : Int)) (.slice a0 ps0.length c0)
      exact ⟨f, ps0, a0, c0, k9, rfl, HNN.out, HOKK.out, hpl.out, HOF.out _ _, hk9, HGF.out _ _⟩

end Go.Proofs.Ytghnojmaciljoaa

namespace Go.Proofs.Ytghnojmaciljoaa
set_option linter.unusedVariables false
set_option linter.unusedSimpArgs false
open Go Go.RowKit Go.Sort

theorem OwnI.set {w : World} {B g n c i : Nat} {zs : List Int} (h : OwnI w B (.slice (some ⟨g, 0, none⟩) n c) zs) (z : Int) : OwnI (w.setCell ⟨g, i, none⟩ (.int .i64 z)) B (.slice (some ⟨g, 0, none⟩) n c) (zs.set i z) := by
  unfold OwnI World.ownsRow at h ⊢
  obtain ⟨hl, h⟩ := h
  refine ⟨by simp, ?_⟩
  rcases h with ⟨h, -⟩ | ⟨g', cap, cur, hv, hB, hg, hnc, hcm, hcs, htk⟩
  · cases h
  · injection hv with hv hn hc
    injection hv with hv
    injection hv with hv
    subst hv hc
    refine .inr ⟨g, c, cur.setIfInBounds i (.int .i64 z), by rw [List.length_set, hn], hB, set_cells hg, by rw [List.length_set]; exact hnc, hcm, by rw [Array.size_setIfInBounds]; exact hcs, ?_⟩
    rw [Array.toList_setIfInBounds, List.take_set, List.length_set, htk, List.map_set]
/-- Two rows of numbers that the call owns, beside the graph's box. -/
structure RQ (B P N : Nat) (a : Option Addr) (M c : Nat) (w : World) (n m : Nat) (la : Option Addr) (lc : Nat) (ra : Option Addr) (rc : Nat) (wr : World) (lab rk : List Int) : Prop where
  ll : lab.length = n
  rl : rk.length = m
  ol : OwnI wr B (.slice la n lc) lab
  or : OwnI wr B (.slice ra m rc) rk
  ap : ∀ g, (Value.slice la n lc).ownBlock = some g → (Value.slice ra m rc).ownBlock ≠ some g
  box : wr.heap[P]? = some (.cells #[.int .i64 (N : Int), .slice a M c] 27 (0, 0))
  bl : Below w.heap.size w wr
  pb : P < B
  wp : w.heap.size ≤ P
section
variable {B P N : Nat} {a : Option Addr} {M c : Nat} {w : World} {n m : Nat} {la : Option Addr} {lc : Nat} {ra : Option Addr} {rc : Nat} {wr : World} {lab rk : List Int}
theorem RQ.go (h : RQ B P N a M c w n m la lc ra rc wr lab rk) {w' : World} (hb : Below wr.heap.size wr w') : RQ B P N a M c w n m la lc ra rc w' lab rk :=
  ⟨h.ll, h.rl, h.ol.go hb, h.or.go hb, h.ap, blk_kept2 h.box hb, h.bl.trans (Below.mono hb h.bl.size), h.pb, h.wp⟩
theorem RQ.sz (h : RQ B P N a M c w n m la lc ra rc wr lab rk) : P < wr.heap.size := lt_of_block h.box
theorem RQ.ownL (h : RQ B P N a M c w n m la lc ra rc wr lab rk) : World.ownsRow wr B 3 1 (.slice la n lc) n (lab.map (Value.int .i64)) := by
  have h1 := h.ol
  unfold OwnI at h1
  rw [h.ll] at h1
  exact h1
theorem RQ.ownR (h : RQ B P N a M c w n m la lc ra rc wr lab rk) : World.ownsRow wr B 3 1 (.slice ra m rc) m (rk.map (Value.int .i64)) := by
  have h1 := h.or
  unfold OwnI at h1
  rw [h.rl] at h1
  exact h1
theorem RQ.appL (h : RQ B P N a M c w n m la lc ra rc wr lab rk) (hB : B ≤ wr.heap.size) {w8 : World} {g8 c8 : Nat} {z : Int} (hown : w8.ownsRow B 3 1 (.slice (some ⟨g8, 0, none⟩) (n + 1) c8) (n + 1) (lab.map (Value.int .i64) ++ [.int .i64 z])) (hg : wr.grownBy w8 (Value.slice la n lc).ownBlock)
    (hbl : (Value.slice (some ⟨g8, 0, none⟩) (n + 1) c8).ownBlock = (Value.slice la n lc).ownBlock ∨ (Value.slice (some ⟨g8, 0, none⟩) (n + 1) c8).ownBlock = some wr.heap.size) :
    RQ B P N a M c w (n + 1) m (some ⟨g8, 0, none⟩) c8 ra rc w8 (lab ++ [z]) rk := by
  have hpb := h.pb
  have hOB : ∀ g, (Value.slice la n lc).ownBlock = some g → B ≤ g := fun g e => (owns_blk h.ol g e).1
  refine ⟨by rw [List.length_append, h.ll]; rfl, h.rl, ?_, owns_kept h.or fun g e => hg.block g (owns_blk h.or g e).2 (fun e2 => h.ap g e2.symm e), fun g e e2 => ?_, (hg.block P h.sz (fun e => by have := hOB P e.symm; omega)).trans h.box, below_app5 h.bl hg (fun g e => by have := hOB g e; have := h.wp; omega) h.bl.size, h.pb, h.wp⟩
  · unfold OwnI
    rw [List.length_append, List.map_append, h.ll]
    exact hown
  · rcases hbl with hbl | hbl
    · rw [hbl] at e; exact h.ap g e e2
    · rw [hbl] at e; injection e with e
      have := (owns_blk h.or g e2).2; omega
theorem RQ.appR (h : RQ B P N a M c w n m la lc ra rc wr lab rk) (hB : B ≤ wr.heap.size) {w8 : World} {g8 c8 : Nat} {z : Int} (hown : w8.ownsRow B 3 1 (.slice (some ⟨g8, 0, none⟩) (m + 1) c8) (m + 1) (rk.map (Value.int .i64) ++ [.int .i64 z])) (hg : wr.grownBy w8 (Value.slice ra m rc).ownBlock)
    (hbl : (Value.slice (some ⟨g8, 0, none⟩) (m + 1) c8).ownBlock = (Value.slice ra m rc).ownBlock ∨ (Value.slice (some ⟨g8, 0, none⟩) (m + 1) c8).ownBlock = some wr.heap.size) :
    RQ B P N a M c w n (m + 1) la lc (some ⟨g8, 0, none⟩) c8 w8 lab (rk ++ [z]) := by
  have hpb := h.pb
  have hOB : ∀ g, (Value.slice ra m rc).ownBlock = some g → B ≤ g := fun g e => (owns_blk h.or g e).1
  refine ⟨h.ll, by rw [List.length_append, h.rl]; rfl, owns_kept h.ol fun g e => hg.block g (owns_blk h.ol g e).2 (fun e2 => h.ap g e e2.symm), ?_, fun g e e2 => ?_, (hg.block P h.sz (fun e => by have := hOB P e.symm; omega)).trans h.box, below_app5 h.bl hg (fun g e => by have := hOB g e; have := h.wp; omega) h.bl.size, h.pb, h.wp⟩
  · unfold OwnI
    rw [List.length_append, List.map_append, h.rl]
    exact hown
  · rcases hbl with hbl | hbl
    · rw [hbl] at e2; exact h.ap g e e2
    · rw [hbl] at e2; injection e2 with e2
      have := (owns_blk h.ol g e).2; omega
theorem OwnI.at1 {w : World} {B n c i : Nat} {a : Option Addr} {zs : List Int} (h : OwnI w B (.slice a n c) zs) (hl : zs.length = n) (hi : i < n) (hi2 : i < zs.length) : ∃ g, a = some ⟨g, 0, none⟩ ∧ B ≤ g ∧ g < w.heap.size ∧ w.cell? ⟨g, i, none⟩ = some (.int .i64 zs[i]) ∧ w.frozen? ⟨g, i, none⟩ = false := by
  have h0 := h
  rcases h.2 with ⟨h1, h2⟩ | ⟨g, cap, cur, hv, hB, hg, -⟩
  · omega
  · injection hv with hv hn hc
    subst hv
    exact ⟨g, rfl, hB, lt_of_block hg, owns_cell h0 rfl i _ (by rw [List.getElem?_map, List.getElem?_eq_getElem hi2]; rfl), free_any hg i⟩
/-- Where a node's label and rank lie. -/
theorem RQ.at_ (h : RQ B P N a M c w n n la lc ra rc wr lab rk) {i : Nat} (hi : i < n) (h1 : i < lab.length) (h2 : i < rk.length) : ∃ g1 g2, la = some ⟨g1, 0, none⟩ ∧ ra = some ⟨g2, 0, none⟩ ∧ g1 ≠ g2 ∧ B ≤ g1 ∧ B ≤ g2 ∧ g1 < wr.heap.size ∧ g2 < wr.heap.size ∧ wr.cell? ⟨g1, i, none⟩ = some (.int .i64 lab[i]) ∧ wr.cell? ⟨g2, i, none⟩ = some (.int .i64 rk[i]) ∧ wr.frozen? ⟨g1, i, none⟩ = false ∧ wr.frozen? ⟨g2, i, none⟩ = false := by
  obtain ⟨g1, rfl, k1, k2, k3, k4⟩ := h.ol.at1 h.ll hi h1
  obtain ⟨g2, rfl, j1, j2, j3, j4⟩ := h.or.at1 h.rl hi h2
  exact ⟨g1, g2, rfl, rfl, fun e => h.ap g1 rfl (by rw [e]; rfl), k1, j1, k2, j2, k3, j3, k4, j4⟩
theorem RQ.set {g1 g2 : Nat} (h : RQ B P N a M c w n n (some ⟨g1, 0, none⟩) lc (some ⟨g2, 0, none⟩) rc wr lab rk) (hne : g1 ≠ g2) (hB1 : B ≤ g1) (hB2 : B ≤ g2) (i : Nat) (z1 z2 : Int) :
    RQ B P N a M c w n n (some ⟨g1, 0, none⟩) lc (some ⟨g2, 0, none⟩) rc ((wr.setCell ⟨g1, i, none⟩ (.int .i64 z1)).setCell ⟨g2, i, none⟩ (.int .i64 z2)) (lab.set i z1) (rk.set i z2) := by
  have hpb := h.pb
  have hwp := h.wp
  have o1 : OwnI (wr.setCell ⟨g1, i, none⟩ (.int .i64 z1)) B (.slice (some ⟨g2, 0, none⟩) n rc) rk := owns_kept h.or fun g e => Below.heap_setCell wr ⟨g1, i, none⟩ _ g (by show g ≠ g1; intro e2; have e3 : g2 = g := (by injection e); exact hne (by omega))
  refine ⟨by rw [List.length_set]; exact h.ll, by rw [List.length_set]; exact h.rl, owns_kept (h.ol.set z1) fun g e => Below.heap_setCell _ ⟨g2, i, none⟩ _ g (by show g ≠ g2; intro e2; have e3 : g1 = g := (by injection e); exact hne (by omega)), o1.set z2, h.ap, ?_, below_set5 (below_set5 h.bl (by omega)) (by omega), h.pb, h.wp⟩
  exact (Below.heap_setCell _ ⟨g2, i, none⟩ _ P (by show P ≠ g2; omega)).trans ((Below.heap_setCell wr ⟨g1, i, none⟩ _ P (by show P ≠ g1; omega)).trans h.box)
end

/-- What the reference's build gives. -/
def RBuildOut (N : Nat) (ps : List (Int × Int)) (w : World) (e : Ending) (w' : World) : Prop := ∃ (la : Option Addr) (lc : Nat) (ra : Option Addr) (rc : Nat) (lab rk : List Int), e = .returned (.tuple #[.slice la N lc, .slice ra N rc]) ∧ OwnI w' (w.heap.size + 1) (.slice la N lc) lab ∧ OwnI w' (w.heap.size + 1) (.slice ra N rc) rk ∧ GSpec N ps lab rk ∧ Below w.heap.size w w'

set_option maxRecDepth 100000 in
set_option maxHeartbeats 1000000 in
theorem rdBuild_any (N : Nat) (a : Option Addr) (c : Nat) (ps : List (Int × Int)) (w : World) (h : PairsAt w (.slice a ps.length c) ps) (hok : GOk (N : Int) ps) (hpl : ps.length ≤ 2000) :
    Calls Try.prog 26 #[.agg #[.int .i64 (N : Int), .slice a ps.length c]] w (RBuildOut N ps w) := by
  have hgr := bgrow w (.cells #[.int .i64 (N : Int), .slice a ps.length c] 27)
  have H0 := hidIt h
  have HOK := hidIt hok
  have hN : N ≤ 40 := by have := hok.n40; omega
  obtain ⟨gl, gr, hsp, hrb⟩ := gspec_exB hok
  have HSP := hidIt hsp
  have HRB := hidIt hrb
  have HQ1 : Hid (RQ (w.heap.size + 1) w.heap.size N a ps.length c w 0 0 none 0 none 0 (w.alloc (.cells #[.int .i64 (N : Int), .slice a ps.length c] 27)) [] []) :=
    ⟨rfl, rfl, OwnI.nil _ _, OwnI.nil _ _, fun g e => (by cases e), heap_alloc_new w _, hgr, Nat.lt_succ_self _, Nat.le_refl _⟩
  clear h hok hsp hrb hgr
  go_enter Try.func26, Try.ntmps26
  go_upto_region 1 with (fail)
  generalize (w.alloc (.cells #[.int .i64 (N : Int), .slice a ps.length c] 27)) = w1 at *
  obtain ⟨P, hP⟩ : ∃ P, P = w.heap.size := ⟨_, rfl⟩
  have HP := hidIt hP
  rw [← hP] at HQ1 ⊢
  clear hP
  obtain ⟨M, hM⟩ : ∃ M, M = ps.length := ⟨_, rfl⟩
  have HM := hidIt hM
  rw [← hM] at hpl HQ1 H0 ⊢
  clear hM
  go_wp2_with fail
  go_loopw [4, 5, 6] (fun v4 v5 v6 wr => ∃ (k : Nat) (la : Option Addr) (lc : Nat) (ra : Option Addr) (rc : Nat), k ≤ N ∧ v4 = .slice la k lc ∧ v5 = .slice ra k rc ∧ v6 = .int .i64 k ∧ Hid (RQ (P + 1) P N a M c w k k la lc ra rc wr (List.replicate k 3) (List.replicate k 0))) (fun _ _ v6 _ => N - (intOf v6).toNat)
  case atStart => exact ⟨0, none, 0, none, 0, Nat.zero_le _, (by first | rfl | trivial), (by first | rfl | trivial), (by first | rfl | trivial), HQ1.out⟩
  case round =>
    clear HQ1
    obtain ⟨k, la, lc, ra, rc, hk, rfl, rfl, rfl, HQ⟩ := hrel
    have hk0 : (0 : Int) ≤ (k : Int) := by omega
    obtain ⟨x0, x1⟩ := And.intro (cell_two0 HQ.out.box) (cell_two1 HQ.out.box)
    have lx := HQ.out.sz
    by_cases hlt : k < N
    · have hkI : (k : Int) < (N : Int) := by omega
      have hgr := bgrow wr (.cells #[.int .i64 3] 3)
      have HQ2 := hidIt (HQ.out.go hgr)
      have hsz2 : P + 1 ≤ (wr.alloc (.cells #[.int .i64 3] 3)).heap.size := HQ2.out.sz
      have HN2 := hidIt (heap_alloc_new wr (.cells #[.int .i64 3] 3))
      clear hgr HQ
      go_wp2_with (at_builtin; refine Hid.out ?_)
      refine hidIt ?_
      refine wpList_append_kb rfl (.tmp 23) (.tmp 24) elemI rfl (P + 1) (.slice la k lc) k _ rfl HQ2.out.ownL _ 1 rfl #[.int .i64 3] 3 HN2.out rfl (one_of (by rfl)) (by omega) hsz2 ?_
      intro g8 c8 w8 hown8 hg8 hbl8
      have HQ8 := hidIt (HQ2.out.appL hsz2 hown8 hg8 hbl8)
      clear hown8 hg8 hbl8 HQ2 HN2 hsz2 x0 x1 lx
      have hgr := bgrow w8 (.cells #[.int .i64 0] 3)
      have HQ9 := hidIt (HQ8.out.go hgr)
      have hsz9 : P + 1 ≤ (w8.alloc (.cells #[.int .i64 0] 3)).heap.size := HQ9.out.sz
      have HN9 := hidIt (heap_alloc_new w8 (.cells #[.int .i64 0] 3))
      clear hgr HQ8
      go_wp2_with (at_builtin; refine Hid.out ?_)
      refine hidIt ?_
      refine wpList_append_kb rfl (.tmp 26) (.tmp 27) elemI rfl (P + 1) (.slice ra k rc) k _ rfl HQ9.out.ownR _ 1 rfl #[.int .i64 0] 3 HN9.out rfl (one_of (by rfl)) (by omega) hsz9 ?_
      intro g10 c10 w10 hown10 hg10 hbl10
      have HQ10 := hidIt (HQ9.out.appR hsz9 hown10 hg10 hbl10)
      have e3 : List.replicate k (3 : Int) ++ [3] = List.replicate (k + 1) 3 := (List.replicate_succ' ..).symm
      have e0 : List.replicate k (0 : Int) ++ [0] = List.replicate (k + 1) 0 := (List.replicate_succ' ..).symm
      rw [e3, e0] at HQ10
      clear hown10 hg10 hbl10 HQ9 HN9 hsz9 e3 e0
      go_wp2_with fail
      go_roundw
      case rel => exact ⟨k + 1, _, _, _, _, by omega, (by first | rfl | trivial), (by first | rfl | trivial), by go_num, HQ10.out⟩
      case measure => simp [intOf]; omega
    · obtain rfl : k = N := by omega
      have hkI : ¬ (k : Int) < (k : Int) := by omega
      have HQ2 : Hid (RQ (P + 1) P k a M c w k k la lc ra rc wr (fsR k (cutF gl gr 3 1)) (fsR k (cutF gr gr 0 1))) := by
        have hs := cut_start HSP.out
        show RQ _ _ _ _ _ _ _ _ _ _ _ _ _ _ _ _
        rw [hs.1, hs.2]
        exact HQ.out
      clear HQ
      generalize wr = w2 at *
      go_wp2_with fail
      clear x0 x1 lx
      go_loopw [7, 8, 9, 10, 11, 13, 14, 16, 49, 80] (fun v7 _ _ _ _ _ _ _ _ _ wr => ∃ t : Nat, 1 ≤ t ∧ t ≤ 43 ∧ v7 = .int .i64 t ∧ Hid (RQ (P + 1) P k a M c w k k la lc ra rc wr (fsR k (cutF gl gr 3 t)) (fsR k (cutF gr gr 0 t)))) (fun v7 _ _ _ _ _ _ _ _ _ _ => 44 - (intOf v7).toNat)
      case atStart => exact ⟨1, Nat.le_refl _, by decide, (by first | rfl | trivial), HQ2.out⟩
      case round =>
        clear HQ2
        obtain ⟨t, ht1, ht43, rfl, HQ⟩ := hrel
        have htI : (1 : Int) ≤ (t : Int) := by omega
        have HT := hidIt htI
        obtain ⟨bf, hbf⟩ : ∃ bf, bf = fsR k (cutF gl gr 3 t) := ⟨_, rfl⟩
        have HBF := hidIt hbf
        obtain ⟨r0, hr0⟩ : ∃ r0, r0 = fsR k (cutF gr gr 0 t) := ⟨_, rfl⟩
        have HR0 := hidIt hr0
        rw [← hbf, ← hr0] at HQ
        have hbl : bf.length = k := by rw [hbf, fsR_len]
        have HBL := hidIt hbl
        clear hbf hr0 hbl
        have hgr := bgrow wr (.cells #[] 3)
        have HQ3 := hidIt (HQ.out.go hgr)
        have HI3 : Hid (IL (wr.alloc (.cells #[] 3)) (.slice la k lc) bf) := HQ3.out.ol.il
        have HN3 := hidIt (heap_alloc_new wr (.cells #[] 3))
        go_wp2_with (at_builtin; refine Hid.out ?_)
        refine hidIt ?_
        refine wpList_append_ints rfl (.tmp 31) (.tmp 32) rfl wr.heap.size wr.heap.size (Nat.le_refl _) HN3.out rfl la k lc bf rfl HI3.out (by omega) ?_
        intro g4 c4 w4 ho4 hg4
        have hb4 : Below wr.heap.size wr w4 := below_app5 hgr hg4 (fun g e => by injection e with e; omega) hgr.size
        have HQ4 := hidIt (HQ.out.go hb4)
        have HO4 := hidIt ho4
        have HLT : Hid (∀ g, ((Value.slice la k lc).ownBlock = some g ∨ (Value.slice ra k rc).ownBlock = some g) → g < wr.heap.size) := fun g e => by
          rcases e with e | e
          · exact (owns_blk HQ.out.ol g e).2
          · exact (owns_blk HQ.out.or g e).2
        clear hgr hg4 hb4 ho4 HQ HQ3 HI3 HN3
        obtain ⟨bs, hbs⟩ : ∃ bs, bs = wr.heap.size := ⟨_, rfl⟩
        have HBS := hidIt hbs
        rw [← hbs] at HO4 HLT
        clear hbs
        go_wp2_with fail
        go_loopw [8, 10, 11, 13, 49] (fun v8 v10 _ _ _ wr => ∃ (i : Nat) (lab rk : List Int) (ch : Bool), i ≤ k ∧ v10 = .int .i64 i ∧ v8 = .bool ch ∧ Hid ((List.range i).foldl (inS bf ps t) (bf, r0, false) = (lab, rk, ch)) ∧ Hid (RQ (P + 1) P k a M c w k k la lc ra rc wr lab rk) ∧ Hid (OwnI wr bs (.slice (some ⟨g4, 0, none⟩) k c4) bf)) (fun _ v10 _ _ _ _ => k - (intOf v10).toNat)
        case atStart => exact ⟨0, bf, r0, false, Nat.zero_le _, (by first | rfl | trivial), (by first | rfl | trivial), (rfl : _ = _), HQ4.out, HO4.out⟩
        case round =>
          clear HQ4 HO4
          obtain ⟨i, lab, rk, ch, hi, rfl, rfl, HFO, HQ, HO⟩ := hrel
          have hi0 : (0 : Int) ≤ (i : Int) := by omega
          obtain ⟨x0, x1⟩ := And.intro (cell_two0 HQ.out.box) (cell_two1 HQ.out.box)
          have lx := HQ.out.sz
          by_cases hik : i < k
          · have hiI : (i : Int) < (k : Int) := by omega
            have hib : i < bf.length := by rw [HBL.out]; exact hik
            obtain ⟨gq, hgq, -, lgq, q0, -⟩ := HO.out.at1 HBL.out hik hib
            injection hgq with hgq
            injection hgq with hgq
            subst hgq
            have HFS : Hid ((List.range (i + 1)).foldl (inS bf ps t) (bf, r0, false) = inS bf ps t (lab, rk, ch) i) := by
              show _ = _
              rw [List.range_succ, List.foldl_append, HFO.out]; rfl
            have HB0 : Hid ((bf[i] == 3) = decide (bf.getD i 0 = 3)) := by
              show _ = _
              rw [getD_at hib]; rfl
            have HFR : Hid (frB bf ps i = (decide (bf.getD i 0 = 3) && (ins ps i).all fun x => decide (bf.getD x 0 = 2))) := (rfl : _ = _)
            rw [← HB0.out] at HFR
            generalize bf[i] = zi at *
            generalize hb0 : (zi == 3) = b0 at *
            have HB0b := hidIt hb0
            clear hib HFO
            go_wp2_with fail
            refine (rgAttackers2_any (k : Int) _ ps (i : Int) wr (H0.out.below HQ.out.bl) (by have := HM.out; omega)).mono ?_
            rw [vL_of HOK.out, inL_ins HOK.out]
            rintro e w9 ⟨v9, rfl, ho9, hb9⟩
            have HQ9 := hidIt (HQ.out.go hb9)
            have HO9 := hidIt (HO.out.go hb9)
            obtain ⟨ka, kc, rfl, hkc⟩ := ho9.il.ic
            have HKC := hidIt hkc
            have HIL := hidIt (ins_lt HOK.out i)
            have hAl : (ins ps i).length ≤ 2000 := by have := ins_len_le ps i; have := HM.out; omega
            rw [intsN_len]
            obtain ⟨A, hA⟩ : ∃ A, A = (ins ps i).length := ⟨_, rfl⟩
            have HA := hidIt hA
            rw [← hA] at hAl ⊢
            clear ho9 hkc hb9 HQ HO hA x0 x1 lx q0 lgq hb0 HB0
            go_wp2_with fail
            go_loopw [11, 13, 49] (fun v11 _ v49 wr => ∃ q : Nat, q ≤ A ∧ v49 = .int .i64 q ∧ v11 = .bool (b0 && ((ins ps i).take q).all fun x => decide (bf.getD x 0 = 2)) ∧ wr = w9) (fun _ _ v49 _ => A - (intOf v49).toNat)
            case atStart => exact ⟨0, Nat.zero_le _, (by first | rfl | trivial), (by rw [List.take_zero, List.all_nil, Bool.and_true]), (by first | rfl | trivial)⟩
            case round =>
              obtain ⟨q, hq, rfl, rfl, rfl⟩ := hrel
              have hq0 : (0 : Int) ≤ (q : Int) := by omega
              by_cases hqA : q < A
              · have hqI : (q : Int) < (A : Int) := by omega
                have hqk : q < (ins ps i).length := by have := HA.out; omega
                obtain ⟨b1, o1, rfl, l1, hc1⟩ := HKC.out.at_ (k := q) (by rw [intsN_len]; exact hqk)
                have p0 := hc1 q (by rw [intsN_len]; exact hqk)
                rw [show (intsN (ins ps i))[q]'(by rw [intsN_len]; exact hqk) = ((ins ps i)[q] : Int) by simp [intsN]] at p0
                have hxk := HIL.out _ (List.getElem_mem hqk)
                have HST : Hid (((ins ps i).take (q + 1)).all (fun x => decide (bf.getD x 0 = 2)) = (((ins ps i).take q).all (fun x => decide (bf.getD x 0 = 2)) && decide (bf.getD (ins ps i)[q] 0 = 2))) := by
                  show _ = _
                  rw [List.take_succ_eq_append_getElem hqk, List.all_append]
                  simp
                generalize (ins ps i)[q] = x at *
                clear hc1
                generalize ((ins ps i).take q).all (fun x => decide (bf.getD x 0 = 2)) = al at *
                have hxk2 : x < k := by omega
                have hx0 : (0 : Int) ≤ (x : Int) := by omega
                have hxb : x < bf.length := by rw [HBL.out]; exact hxk2
                obtain ⟨gq, hgq, -, lgq, q0, -⟩ := HO9.out.at1 HBL.out hxk2 hxb
                injection hgq with hgq
                injection hgq with hgq
                subst hgq
                rw [getD_at hxb] at HST
                generalize bf[x] = y at *
                clear hxb
                cases hcb : (b0 && al)
                · have HE : Hid ((b0 && ((ins ps i).take (q + 1)).all fun x => decide (bf.getD x 0 = 2)) = false) := by
                    show _ = _
                    rw [HST.out, ← Bool.and_assoc, hcb, Bool.false_and]
                  clear hcb
                  go_wp2_with fail
                  go_roundw
                  case rel => exact ⟨q + 1, by omega, by go_num, by rw [HE.out], (by first | rfl | trivial)⟩
                  case measure => simp [intOf]; omega
                · have HE : Hid ((b0 && ((ins ps i).take (q + 1)).all fun x => decide (bf.getD x 0 = 2)) = (y == 2)) := by
                    show _ = _
                    rw [HST.out, ← Bool.and_assoc, hcb, Bool.true_and]; rfl
                  clear hcb
                  generalize hyb : (y == 2) = yb at *
                  go_wp2_with fail
                  go_roundw
                  case rel => exact ⟨q + 1, by omega, by go_num, by rw [HE.out], (by first | rfl | trivial)⟩
                  case measure => simp [intOf]; omega
              · obtain rfl : q = A := by omega
                have hqI : ¬ (q : Int) < (q : Int) := by omega
                have HFR2 : Hid ((b0 && ((ins ps i).take q).all fun x => decide (bf.getD x 0 = 2)) = frB bf ps i) := by
                  show _ = _
                  rw [List.take_of_length_le (by have := HA.out; omega), HFR.out]
                rw [HFR2.out]
                have HFS2 := HFS
                clear HFS HFR HFR2 HKC
                cases hfr : frB bf ps i
                · have HN : Hid ((List.range (i + 1)).foldl (inS bf ps t) (bf, r0, false) = (lab, rk, ch)) := by
                    show _ = _
                    rw [HFS2.out]; unfold inS; rw [hfr, if_neg (by decide)]
                  clear hfr
                  go_wp2_with fail
                  go_roundw
                  case rel => exact ⟨i + 1, lab, rk, ch, by omega, by go_num, (by first | rfl | trivial), HN.out, HQ9.out, HO9.out⟩
                  case measure => simp [intOf]; omega
                · have HN : Hid ((List.range (i + 1)).foldl (inS bf ps t) (bf, r0, false) = (lab.set i 1, rk.set i t, true)) := by
                    show _ = _
                    rw [HFS2.out]; unfold inS; rw [hfr, if_pos rfl]
                  clear hfr
                  obtain ⟨g1, g2, hla, hra, hne, hB1, hB2, l1, l2, c1, c2, f1, f2⟩ := HQ9.out.at_ hik (by rw [HQ9.out.ll]; exact hik) (by rw [HQ9.out.rl]; exact hik)
                  subst hla hra
                  have HQ10 := hidIt (HQ9.out.set hne hB1 hB2 i 1 (t : Int))
                  have hlt1 := HLT.out g1 (.inl rfl)
                  have hlt2 := HLT.out g2 (.inr rfl)
                  have HO10 : Hid (OwnI ((wr.setCell ⟨g1, i, none⟩ (.int .i64 1)).setCell ⟨g2, i, none⟩ (.int .i64 (t : Int))) bs (.slice (some ⟨g4, 0, none⟩) k c4) bf) :=
                    owns_kept HO9.out fun g e => (Below.heap_setCell _ ⟨g2, i, none⟩ _ g (by show g ≠ g2; have := (owns_blk HO9.out g e).1; omega)).trans (Below.heap_setCell wr ⟨g1, i, none⟩ _ g (by show g ≠ g1; have := (owns_blk HO9.out g e).1; omega))
                  have c2' : (wr.setCell ⟨g1, i, none⟩ (.int .i64 1)).cell? ⟨g2, i, none⟩ = some (.int .i64 (rk[i]'(by rw [HQ9.out.rl]; exact hik))) := (World.cell?_of_block (w := wr) (a := ⟨g2, i, none⟩) (Below.heap_setCell wr ⟨g1, i, none⟩ _ g2 (by show g2 ≠ g1; exact Ne.symm hne))).trans c2
                  have f2' : (wr.setCell ⟨g1, i, none⟩ (.int .i64 1)).frozen? ⟨g2, i, none⟩ = false := (World.frozen?_of_block (w := wr) (a := ⟨g2, i, none⟩) (Below.heap_setCell wr ⟨g1, i, none⟩ _ g2 (by show g2 ≠ g1; exact Ne.symm hne))).trans f2
                  generalize lab[i]'(by rw [HQ9.out.ll]; exact hik) = z1 at *
                  generalize rk[i]'(by rw [HQ9.out.rl]; exact hik) = z2 at *
                  go_wp2_with fail
                  go_roundw
                  case rel => exact ⟨i + 1, _, _, true, by omega, by go_num, (by first | rfl | trivial), HN.out, HQ10.out, HO10.out⟩
                  case measure => simp [intOf]; omega
          · obtain rfl : i = k := by omega
            have hiI : ¬ (i : Int) < (i : Int) := by omega
            have hall := in_all HOK.out.ix HSP.out HT.out i (Nat.le_refl _)
            rw [← HBF.out, ← HR0.out, HFO.out] at hall
            injection hall with e1 hall
            injection hall with e2 e3
            have HCH := hidIt e3
            have HME := hidIt (mid_end (N := i) (gl := gl) (gr := gr) (t := (t : Int)))
            have HQ5 : Hid (RQ (P + 1) P i a M c w i i la lc ra rc wr (fsR i (endF gl gr t 0)) (fsR i (endG gl gr t 0))) := by
              show RQ _ _ _ _ _ _ _ _ _ _ _ _ _ _ _ _
              rw [← HME.out.1, ← HME.out.2, ← e1, ← e2]
              exact HQ.out
            have HBW : Hid (bs ≤ wr.heap.size) := by
              have h4 := HO.out.2
              rcases h4 with ⟨h4, -⟩ | ⟨g, cap, cur, hv, hB, hg, -⟩
              · cases h4
              · have := lt_of_block hg; show bs ≤ _; omega
            clear e1 e2 e3 HQ HO HFO HME x0 x1 lx
            obtain ⟨x0, x1⟩ := And.intro (cell_two0 HQ5.out.box) (cell_two1 HQ5.out.box)
            have lx := HQ5.out.sz
            generalize wr = w5 at *
            go_wp2_with fail
            clear x0 x1 lx
            go_loopw [14, 16, 80] (fun v14 _ _ wr => ∃ (j : Nat) (lab rk : List Int), j ≤ i ∧ v14 = .int .i64 j ∧ Hid ((List.range j).foldl (fun s x => (ins ps x).foldl (outS t x) s) (fsR i (endF gl gr t 0), fsR i (endG gl gr t 0)) = (lab, rk)) ∧ Hid (RQ (P + 1) P i a M c w i i la lc ra rc wr lab rk) ∧ Hid (bs ≤ wr.heap.size)) (fun v14 _ _ _ => i - (intOf v14).toNat)
            case atStart => exact ⟨0, _, _, Nat.zero_le _, (by first | rfl | trivial), (rfl : _ = _), HQ5.out, HBW.out⟩
            case round =>
              clear HQ5 HBW
              obtain ⟨j, lab, rk, hj, rfl, HFO, HQ, HBW⟩ := hrel
              have hj0 : (0 : Int) ≤ (j : Int) := by omega
              obtain ⟨x0, x1⟩ := And.intro (cell_two0 HQ.out.box) (cell_two1 HQ.out.box)
              have lx := HQ.out.sz
              by_cases hji : j < i
              · have hjI : (j : Int) < (i : Int) := by omega
                have HFS : Hid ((List.range (j + 1)).foldl (fun s x => (ins ps x).foldl (outS t x) s) (fsR i (endF gl gr t 0), fsR i (endG gl gr t 0)) = (ins ps j).foldl (outS t j) (lab, rk)) := by
                  show _ = _
                  rw [List.range_succ, List.foldl_append, HFO.out]; rfl
                clear HFO
                go_wp2_with fail
                refine (rgAttackers2_any (i : Int) _ ps (j : Int) wr (H0.out.below HQ.out.bl) (by have := HM.out; omega)).mono ?_
                rw [vL_of HOK.out, inL_ins HOK.out]
                rintro e w9 ⟨v9, rfl, ho9, hb9⟩
                have HQ9 := hidIt (HQ.out.go hb9)
                have HBW9 : Hid (bs ≤ w9.heap.size) := Nat.le_trans HBW.out hb9.size
                obtain ⟨ka, kc, rfl, -⟩ := ho9.il.ic
                have HOA := hidIt (OwnI.low ho9 HBW.out)
                have HIL := hidIt (ins_lt HOK.out j)
                have hAl : (ins ps j).length ≤ 2000 := by have := ins_len_le ps j; have := HM.out; omega
                rw [intsN_len] at HOA ⊢
                obtain ⟨A, hA⟩ : ∃ A, A = (ins ps j).length := ⟨_, rfl⟩
                have HA := hidIt hA
                rw [← hA] at hAl HOA ⊢
                clear ho9 hb9 HQ HBW hA x0 x1 lx
                go_wp2_with fail
                go_loopw [16, 80] (fun _ v80 wr => ∃ (q : Nat) (lab2 rk2 : List Int), q ≤ A ∧ v80 = .int .i64 q ∧ Hid (((ins ps j).take q).foldl (outS t j) (lab, rk) = (lab2, rk2)) ∧ Hid (RQ (P + 1) P i a M c w i i la lc ra rc wr lab2 rk2) ∧ Hid (OwnI wr bs (.slice ka A kc) (intsN (ins ps j))) ∧ Hid (bs ≤ wr.heap.size)) (fun _ v80 _ => A - (intOf v80).toNat)
                case atStart => exact ⟨0, lab, rk, Nat.zero_le _, (by first | rfl | trivial), (rfl : _ = _), HQ9.out, HOA.out, HBW9.out⟩
                case round =>
                  clear HQ9 HOA HBW9
                  obtain ⟨q, lab2, rk2, hq, rfl, HFQ, HQ, HOA, HBW⟩ := hrel
                  have hq0 : (0 : Int) ≤ (q : Int) := by omega
                  by_cases hqA : q < A
                  · have hqI : (q : Int) < (A : Int) := by omega
                    have hqk : q < (ins ps j).length := by have := HA.out; omega
                    obtain ⟨gk, rfl, -, lgk, p0, -⟩ := HOA.out.at1 (by rw [intsN_len]; exact HA.out.symm) hqA (by rw [intsN_len]; exact hqk)
                    rw [show (intsN (ins ps j))[q]'(by rw [intsN_len]; exact hqk) = ((ins ps j)[q] : Int) by simp [intsN]] at p0
                    have hxk := HIL.out _ (List.getElem_mem hqk)
                    have HST : Hid (((ins ps j).take (q + 1)).foldl (outS t j) (lab, rk) = outS t j (lab2, rk2) (ins ps j)[q]) := by
                      show _ = _
                      rw [foldl_take_succ _ _ _ _ hqk, HFQ.out]
                    generalize (ins ps j)[q] = x at *
                    clear hqk HFQ
                    have hxi : x < i := by omega
                    have hx0 : (0 : Int) ≤ (x : Int) := by omega
                    obtain ⟨g1, g2, hla, hra, hne, hB1, hB2, l1, l2, cj1, cj2, fj1, fj2⟩ := HQ.out.at_ hji (by rw [HQ.out.ll]; exact hji) (by rw [HQ.out.rl]; exact hji)
                    subst hla hra
                    obtain ⟨g1', g2', hla, hra, -, -, -, -, -, cx1, cx2, -, -⟩ := HQ.out.at_ hxi (by rw [HQ.out.ll]; exact hxi) (by rw [HQ.out.rl]; exact hxi)
                    injection hla with hla
                    injection hla with hla
                    injection hra with hra
                    injection hra with hra
                    subst hla hra
                    have HOS : Hid (outS t j (lab2, rk2) x = if lab2[j]'(by rw [HQ.out.ll]; exact hji) = 3 ∧ lab2[x]'(by rw [HQ.out.ll]; exact hxi) = 1 ∧ rk2[x]'(by rw [HQ.out.rl]; exact hxi) = t then (lab2.set j 2, rk2.set j t) else (lab2, rk2)) := by
                      show _ = _
                      unfold outS
                      simp only [getD_at (show j < lab2.length by rw [HQ.out.ll]; exact hji), getD_at (show x < lab2.length by rw [HQ.out.ll]; exact hxi), getD_at (show x < rk2.length by rw [HQ.out.rl]; exact hxi)]
                    have HSET := hidIt (HQ.out.set hne hB1 hB2 j 2 (t : Int))
                    have hlt1 := HLT.out g1 (.inl rfl)
                    have hlt2 := HLT.out g2 (.inr rfl)
                    have HO10 : Hid (OwnI ((wr.setCell ⟨g1, j, none⟩ (.int .i64 2)).setCell ⟨g2, j, none⟩ (.int .i64 (t : Int))) bs (.slice (some ⟨gk, 0, none⟩) A kc) (intsN (ins ps j))) :=
                      owns_kept HOA.out fun g e => (Below.heap_setCell _ ⟨g2, j, none⟩ _ g (by show g ≠ g2; have := (owns_blk HOA.out g e).1; omega)).trans (Below.heap_setCell wr ⟨g1, j, none⟩ _ g (by show g ≠ g1; have := (owns_blk HOA.out g e).1; omega))
                    have c2' : (wr.setCell ⟨g1, j, none⟩ (.int .i64 2)).cell? ⟨g2, j, none⟩ = some (.int .i64 (rk2[j]'(by rw [HQ.out.rl]; exact hji))) := (World.cell?_of_block (w := wr) (a := ⟨g2, j, none⟩) (Below.heap_setCell wr ⟨g1, j, none⟩ _ g2 (by show g2 ≠ g1; exact Ne.symm hne))).trans cj2
                    have f2' : (wr.setCell ⟨g1, j, none⟩ (.int .i64 2)).frozen? ⟨g2, j, none⟩ = false := (World.frozen?_of_block (w := wr) (a := ⟨g2, j, none⟩) (Below.heap_setCell wr ⟨g1, j, none⟩ _ g2 (by show g2 ≠ g1; exact Ne.symm hne))).trans fj2
                    have HBW2 : Hid (bs ≤ ((wr.setCell ⟨g1, j, none⟩ (.int .i64 2)).setCell ⟨g2, j, none⟩ (.int .i64 (t : Int))).heap.size) := by
                      show bs ≤ _
                      simpa using HBW.out
                    generalize lab2[j]'(by rw [HQ.out.ll]; exact hji) = zj at *
                    generalize lab2[x]'(by rw [HQ.out.ll]; exact hxi) = zx at *
                    generalize rk2[x]'(by rw [HQ.out.rl]; exact hxi) = rx at *
                    generalize rk2[j]'(by rw [HQ.out.rl]; exact hji) = rj at *
                    by_cases hc1 : zj = 3
                    rotate_left
                    · have HN := hidIt (HST.out.trans (HOS.out.trans (if_neg (fun h => hc1 h.1))))
                      have hb1 : (zj == 3) = false := beq_eq_false_iff_ne.2 hc1
                      clear hc1 HST HOS c2' f2'
                      go_wp2_with fail
                      go_roundw
                      case rel => exact ⟨q + 1, lab2, rk2, by omega, by go_num, HN.out, HQ.out, HOA.out, HBW.out⟩
                      case measure => simp [intOf]; omega
                    subst hc1
                    by_cases hc2 : zx = 1
                    rotate_left
                    · have HN := hidIt (HST.out.trans (HOS.out.trans (if_neg (fun h => hc2 h.2.1))))
                      have hb1 : (zx == 1) = false := beq_eq_false_iff_ne.2 hc2
                      clear hc2 HST HOS c2' f2'
                      go_wp2_with fail
                      go_roundw
                      case rel => exact ⟨q + 1, lab2, rk2, by omega, by go_num, HN.out, HQ.out, HOA.out, HBW.out⟩
                      case measure => simp [intOf]; omega
                    subst hc2
                    by_cases hc3 : rx = (t : Int)
                    rotate_left
                    · have HN := hidIt (HST.out.trans (HOS.out.trans (if_neg (fun h => hc3 h.2.2))))
                      have hb1 : (rx == (t : Int)) = false := beq_eq_false_iff_ne.2 hc3
                      clear hc3 HST HOS c2' f2'
                      go_wp2_with fail
                      go_roundw
                      case rel => exact ⟨q + 1, lab2, rk2, by omega, by go_num, HN.out, HQ.out, HOA.out, HBW.out⟩
                      case measure => simp [intOf]; omega
                    have HN := hidIt (HST.out.trans (HOS.out.trans (if_pos ⟨rfl, rfl, hc3⟩)))
                    subst hc3
                    clear HST HOS
                    go_wp2_with fail
                    go_roundw
                    case rel => exact ⟨q + 1, _, _, by omega, by go_num, HN.out, HSET.out, HO10.out, HBW2.out⟩
                    case measure => simp [intOf]; omega
                  · obtain rfl : q = A := by omega
                    have hqI : ¬ (q : Int) < (q : Int) := by omega
                    have HN : Hid ((List.range (j + 1)).foldl (fun s x => (ins ps x).foldl (outS t x) s) (fsR i (endF gl gr t 0), fsR i (endG gl gr t 0)) = (lab2, rk2)) := by
                      have h := HFQ.out
                      rw [List.take_of_length_le (by have := HA.out; omega)] at h
                      show _ = _
                      rw [HFS.out, h]
                    go_wp2_with fail
                    go_roundw
                    case rel => exact ⟨j + 1, lab2, rk2, by omega, by go_num, HN.out, HQ.out, HBW.out⟩
                    case measure => simp [intOf]; omega
              · obtain rfl : j = i := by omega
                have hjI : ¬ (j : Int) < (j : Int) := by omega
                have hall := out_all HOK.out.ix HSP.out (t := (t : Int)) j (Nat.le_refl _)
                rw [HFO.out] at hall
                injection hall with e1 e2
                have hec := end_cut HSP.out HT.out
                have HQ6 : Hid (RQ (P + 1) P j a M c w j j la lc ra rc wr (fsR j (cutF gl gr 3 ((t : Int) + 1))) (fsR j (cutF gr gr 0 ((t : Int) + 1)))) := by
                  show RQ _ _ _ _ _ _ _ _ _ _ _ _ _ _ _ _
                  rw [← hec.1, ← hec.2, ← e1, ← e2]
                  exact HQ.out
                clear HQ HFO e1 e2 hec
                cases hany : (List.range j).any (inT gl gr t)
                · have hlast := last_round HOK.out.ix HSP.out HT.out hany
                  rw [hlast.1, hlast.2] at HQ6
                  have HCH2 := hidIt (HCH.out.trans hany)
                  rw [HCH2.out]
                  clear hany hlast
                  go_wp2_with fail
                  go_ret2
                  exact ⟨la, lc, ra, rc, gl, gr, rfl, by rw [← HP.out]; exact HQ6.out.ol, by rw [← HP.out]; exact HQ6.out.or, HSP.out, HQ6.out.bl⟩
                · have HCH2 := hidIt (HCH.out.trans hany)
                  rw [HCH2.out]
                  have ht42 : t ≤ 42 := by
                    obtain ⟨x, hx, hxt⟩ := List.any_eq_true.1 hany
                    unfold inT at hxt
                    rw [Bool.and_eq_true, decide_eq_true_eq, decide_eq_true_eq] at hxt
                    have := HRB.out x (List.mem_range.1 hx)
                    omega
                  have HQ7 : Hid (RQ (P + 1) P j a M c w j j la lc ra rc wr (fsR j (cutF gl gr 3 ((t + 1 : Nat) : Int))) (fsR j (cutF gr gr 0 ((t + 1 : Nat) : Int)))) := by
                    show RQ _ _ _ _ _ _ _ _ _ _ _ _ _ _ _ _
                    rw [Int.natCast_add]
                    exact HQ6.out
                  have hwt : IntKind.i64.wrap ((t : Int) + 1) = (t : Int) + 1 := IntWalk.i64_in _ (by omega)
                  clear hany HQ6
                  go_wp2_with fail
                  go_roundw
                  case rel => exact ⟨t + 1, by omega, by omega, by go_num, HQ7.out⟩
                  case measure => simp [intOf]; omega
end Go.Proofs.Ytghnojmaciljoaa

namespace Go.Proofs.Ytghnojmaciljoaa
set_option linter.unusedVariables false
set_option linter.unusedSimpArgs false
open Go Go.RowKit Go.Sort

set_option maxRecDepth 100000 in
set_option maxHeartbeats 1000000 in
theorem rdLabel_rel {N : Nat} {a : Option Addr} {c : Nat} {ps : List (Int × Int)} {w : World} {lab rk : List Int} (h : PairsAt w (.slice a ps.length c) ps) (hok : GOk (N : Int) ps) (hpl : ps.length ≤ 2000) (hs : GSpec N ps lab rk) :
    Calls Try.prog 12 #[.agg #[.int .i64 (N : Int), .slice a ps.length c]] w fun e w' => ∃ u, e = .returned u ∧ isL N lab u w' ∧ Below w.heap.size w w' := by
  have hgr := bgrow w (.cells #[.int .i64 (N : Int), .slice a ps.length c] 27)
  have H1 := hidIt (h.below hgr)
  have HB := hidIt hgr
  have HX := hidIt (heap_alloc_new w (.cells #[.int .i64 (N : Int), .slice a ps.length c] 27))
  have HS := hidIt hs
  clear h hgr hs
  go_enter Try.func12, Try.ntmps12
  go_upto_region 1 with (fail)
  generalize (w.alloc (.cells #[.int .i64 (N : Int), .slice a ps.length c] 27)) = w1 at *
  obtain ⟨x0, x1⟩ := And.intro (cell_two0 HX.out) (cell_two1 HX.out)
  have lx := lt_of_block HX.out
  go_wp2_with fail
  refine (rdBuild_any N a c ps w1 H1.out hok hpl).mono ?_
  rintro e w2 ⟨la, lc, ra, rc, lab', rk', rfl, hl, hr, hs2, hb⟩
  obtain ⟨rfl, rfl⟩ := HS.out.uniq hok.ix hs2
  have HL := hidIt hl.il
  have HB2 := hidIt (HB.out.trans (Below.mono hb HB.out.size))
  clear hl hr hs2 hb
  go_wp2_with fail
  go_ret
  exact ⟨_, rfl, ⟨la, lc, rfl, HL.out⟩, HB2.out⟩
set_option maxRecDepth 100000 in
set_option maxHeartbeats 1000000 in
theorem rdRanks_rel {N : Nat} {a : Option Addr} {c : Nat} {ps : List (Int × Int)} {w : World} {lab rk : List Int} (h : PairsAt w (.slice a ps.length c) ps) (hok : GOk (N : Int) ps) (hpl : ps.length ≤ 2000) (hs : GSpec N ps lab rk) :
    Calls Try.prog 14 #[.agg #[.int .i64 (N : Int), .slice a ps.length c]] w fun e w' => ∃ u, e = .returned u ∧ isL N rk u w' ∧ Below w.heap.size w w' := by
  have hgr := bgrow w (.cells #[.int .i64 (N : Int), .slice a ps.length c] 27)
  have H1 := hidIt (h.below hgr)
  have HB := hidIt hgr
  have HX := hidIt (heap_alloc_new w (.cells #[.int .i64 (N : Int), .slice a ps.length c] 27))
  have HS := hidIt hs
  clear h hgr hs
  go_enter Try.func14, Try.ntmps14
  go_upto_region 1 with (fail)
  generalize (w.alloc (.cells #[.int .i64 (N : Int), .slice a ps.length c] 27)) = w1 at *
  obtain ⟨x0, x1⟩ := And.intro (cell_two0 HX.out) (cell_two1 HX.out)
  have lx := lt_of_block HX.out
  go_wp2_with fail
  refine (rdBuild_any N a c ps w1 H1.out hok hpl).mono ?_
  rintro e w2 ⟨la, lc, ra, rc, lab', rk', rfl, hl, hr, hs2, hb⟩
  obtain ⟨rfl, rfl⟩ := HS.out.uniq hok.ix hs2
  have HL := hidIt hr.il
  have HB2 := hidIt (HB.out.trans (Below.mono hb HB.out.size))
  clear hl hr hs2 hb
  go_wp2_with fail
  go_ret
  exact ⟨_, rfl, ⟨ra, rc, rfl, HL.out⟩, HB2.out⟩

theorem isR12.il {N : Nat} {zs : List Int} {u : Value} {w : World} (h : isR12 N zs u w) (hl : zs.length = N) (hN : N ≤ 1000) : IL w u zs := by
  obtain ⟨L, rfl, hi⟩ := h
  exact hi.ilN hl hN
theorem isL.il12 {N : Nat} {zs : List Int} {u : Value} {w : World} (h : isL N zs u w) : IL w u zs := by
  obtain ⟨a, c, rfl, hi⟩ := h
  exact hi
theorem cell_atM {w : World} {b k : Nat} {cs : Array Value} {t : TypeId} {u : Value} (h : w.heap[b]? = some (.cells cs t (0, 0))) (hk : cs[k]? = some u) : w.cell? ⟨b, k, none⟩ = some u := by
  simp only [World.cell?, h]
  exact hk
/-- A graph stays while a reader turns and others are made. -/
theorem OwnPairs.rd {w w' : World} {B b : Nat} {v : Value} {ps : List (Int × Int)} (h : OwnPairs w B v ps) (hb : b < B) (hg : w.grownBy w' (some b)) : OwnPairs w' B v ps :=
  h.kept hg fun g e x cap hv => by
    injection e with e
    rcases h with ⟨h, -⟩ | ⟨b', cap', h, -, -, h4, -⟩
    · rw [h] at hv; cases hv
    · rw [h] at hv
      injection hv with hv
      injection hv with hv
      injection hv with hv
      omega

set_option maxRecDepth 100000 in
set_option maxHeartbeats 2000000 in
theorem labels_walk (lv : Value) (zs : List Int) (w : World) (hz : IntsAt w w.heap.size lv zs) :
    Calls Try.prog 3 #[lv] w fun e w' => e = .returned (.bool true) ∧ Below w.heap.size w w' := by
  have HZ := hidIt hz
  clear hz
  go_enter Try.func3, Try.ntmps3
  go_wp2_with fail
  refine (new_any lv zs w.heap.size w HZ.out (Nat.le_refl _)).mono ?_
  rintro e w1 ⟨zs', rfl, hs1, o1, rfl⟩
  have HS1 := hidIt hs1
  have HB1 := hidIt (bgrow w o1)
  have hsz1 : w.heap.size < (w.alloc o1).heap.size := hs1.lt
  clear hs1
  generalize w.alloc o1 = w1 at *
  obtain ⟨b0, hb0⟩ : ∃ b0, b0 = w.heap.size := ⟨_, rfl⟩
  have Hb0 := hidIt hb0
  rw [← hb0] at HS1 hsz1 ⊢
  clear hb0
  go_wp2_with fail
  refine (kGraph2_any 6 (by decide) _ _ _ _ w1 HS1.out).mono ?_
  rintro e w2 ⟨N1, ps1, ga1, gc1, k1, rfl, hN1, hok1, hpl1, hop1, hs2, hg2⟩
  have HS2 := hidIt hs2
  have HB2 := hidIt (below_read HB1.out (by rw [← Hb0.out]; exact hg2) (by rw [← Hb0.out]; exact Nat.le_of_lt hsz1))
  have HO1 := hidIt hop1
  have HK1 := hidIt hok1
  have HP1 := hidIt hpl1
  have hsz2 : b0 < w2.heap.size := hs2.lt
  clear hs2 hg2 hop1 hok1 hpl1 HS1 HB1
  go_wp2_with fail
  refine (kGraph2_any 12 (by decide) _ _ _ _ w2 HS2.out).mono ?_
  rintro e w3 ⟨N2, ps2, ga2, gc2, k2, rfl, hN2, hok2, hpl2, hop2, hs3, hg3⟩
  have HS3 := hidIt hs3
  have HB3 := hidIt (below_read HB2.out (by rw [← Hb0.out]; exact hg3) HB2.out.size)
  have HO13 := hidIt (HO1.out.rd hsz1 hg3)
  have HO2 := hidIt hop2
  have HK2 := hidIt hok2
  have HP2 := hidIt hpl2
  have hsz3 : b0 < w3.heap.size := hs3.lt
  clear hs3 hg3 hop2 hok2 hpl2 HS2 HB2 HO1
  go_wp2_with fail
  refine (kGraph2_any 40 (by decide) _ _ _ _ w3 HS3.out).mono ?_
  rintro e w4 ⟨N3, ps3, ga3, gc3, k3, rfl, hN3, hok3, hpl3, hop3, hs4, hg4⟩
  have HB4 := hidIt (below_read HB3.out (by rw [← Hb0.out]; exact hg4) HB3.out.size)
  have HO14 := hidIt (HO13.out.rd hsz1 hg4)
  have HO24 := hidIt (HO2.out.rd hsz2 hg4)
  have HO3 := hidIt hop3
  have HK3 := hidIt hok3
  have HP3 := hidIt hpl3
  clear hs4 hg4 hop3 hok3 hpl3 HS3 HB3 HO13 HO2
  have hgr := bgrow w4 (.cells #[.int .i64 (N1 : Int), .slice ga1 ps1.length gc1, .int .i64 (N2 : Int), .slice ga2 ps2.length gc2, .int .i64 (N3 : Int), .slice ga3 ps3.length gc3] 27)
  have HT := hidIt (heap_alloc_new w4 (.cells #[.int .i64 (N1 : Int), .slice ga1 ps1.length gc1, .int .i64 (N2 : Int), .slice ga2 ps2.length gc2, .int .i64 (N3 : Int), .slice ga3 ps3.length gc3] 27))
  have HALL : Hid (∀ k, k < 3 → ∃ (N : Nat) (ga : Option Addr) (gc : Nat) (ps : List (Int × Int)), (w4.alloc (.cells #[.int .i64 (N1 : Int), .slice ga1 ps1.length gc1, .int .i64 (N2 : Int), .slice ga2 ps2.length gc2, .int .i64 (N3 : Int), .slice ga3 ps3.length gc3] 27)).cell? ⟨w4.heap.size, k * 2, none⟩ = some (.int .i64 (N : Int)) ∧ (w4.alloc (.cells #[.int .i64 (N1 : Int), .slice ga1 ps1.length gc1, .int .i64 (N2 : Int), .slice ga2 ps2.length gc2, .int .i64 (N3 : Int), .slice ga3 ps3.length gc3] 27)).cell? ⟨w4.heap.size, k * 2 + 1, none⟩ = some (.slice ga ps.length gc) ∧ GOk (N : Int) ps ∧ ps.length ≤ 2000 ∧ N ≤ 40 ∧ PairsAt (w4.alloc (.cells #[.int .i64 (N1 : Int), .slice ga1 ps1.length gc1, .int .i64 (N2 : Int), .slice ga2 ps2.length gc2, .int .i64 (N3 : Int), .slice ga3 ps3.length gc3] 27)) (.slice ga ps.length gc) ps) := by
    intro k hk
    match k, hk with
    | 0, _ => exact ⟨N1, ga1, gc1, ps1, cell_atM HT.out rfl, cell_atM HT.out rfl, HK1.out, HP1.out, by omega, (HO14.out.below hgr).lits⟩
    | 1, _ => exact ⟨N2, ga2, gc2, ps2, cell_atM HT.out rfl, cell_atM HT.out rfl, HK2.out, HP2.out, by omega, (HO24.out.below hgr).lits⟩
    | 2, _ => exact ⟨N3, ga3, gc3, ps3, cell_atM HT.out rfl, cell_atM HT.out rfl, HK3.out, HP3.out, by omega, (HO3.out.below hgr).lits⟩
  have HB5 := hidIt (HB4.out.trans (Below.mono hgr HB4.out.size))
  have hTlt := lt_of_block HT.out
  clear hgr HT HO14 HO24 HO3 HK1 HK2 HK3 HP1 HP2 HP3 HB4
  go_wp2_with fail
  generalize (w4.alloc (.cells #[.int .i64 (N1 : Int), .slice ga1 ps1.length gc1, .int .i64 (N2 : Int), .slice ga2 ps2.length gc2, .int .i64 (N3 : Int), .slice ga3 ps3.length gc3] 27)) = w5 at *
  generalize w4.heap.size = T at *
  go_loopw [5, 16] (fun _ v16 wr => ∃ k : Nat, k ≤ 3 ∧ v16 = .int .i64 k ∧ Hid (Below w5.heap.size w5 wr)) (fun _ v16 _ => 3 - (intOf v16).toNat)
  case atStart => exact ⟨0, by decide, (by first | rfl | trivial), Below.refl _ _⟩
  case round =>
    obtain ⟨k, hk, rfl, HB⟩ := hrel
    have hk0 : (0 : Int) ≤ (k : Int) := by omega
    by_cases hlt : k < 3
    · have hkI : (k : Int) < 3 := by omega
      obtain ⟨N, ga, gc, ps, q0, q1, hok, hpl, hN, hpa⟩ := HALL.out k hlt
      have p0 := (Below.cell (p := ⟨T, k * 2, none⟩) HB.out hTlt).trans q0
      have p1 := (Below.cell (p := ⟨T, k * 2 + 1, none⟩) HB.out hTlt).trans q1
      have lt2 := Nat.lt_of_lt_of_le hTlt HB.out.size
      have HOK := hidIt hok
      have hgr := bgrow wr (.cells #[.int .i64 (N : Int), .slice ga ps.length gc] 27)
      have HX := hidIt (heap_alloc_new wr (.cells #[.int .i64 (N : Int), .slice ga ps.length gc] 27))
      have HO := hidIt ((hpa.below HB.out).below hgr)
      have HB6 := hidIt (HB.out.trans (Below.mono hgr HB.out.size))
      obtain ⟨lab, rk, hsp⟩ := gspec_ex hok
      have HSP := hidIt hsp
      have HLL := hidIt hsp.ll
      have HRL := hidIt hsp.rl
      clear q0 q1 hok hpa hgr hsp HB
      go_upto_region 5 with (fail)
      clear p0 p1 lt2
      generalize (wr.alloc (.cells #[.int .i64 (N : Int), .slice ga ps.length gc] 27)) = w6 at *
      generalize wr.heap.size = G at *
      obtain ⟨x0, x1⟩ := And.intro (cell_two0 HX.out) (cell_two1 HX.out)
      have lx := lt_of_block HX.out
      have X0 : ∀ wx, Ext w6 wx → wx.cell? ⟨G, 0, none⟩ = some (.int .i64 (N : Int)) := fun wx hC => ext_cell x0 lx hC
      have X1 : ∀ wx, Ext w6 wx → wx.cell? ⟨G, 1, none⟩ = some (.slice ga ps.length gc) := fun wx hC => ext_cell x1 lx hC
      have C1 : Hid (∀ wx, Ext w6 wx → Calls Try.prog 11 #[.agg #[.int .i64 (N : Int), .slice ga ps.length gc]] wx fun e w'' => ∃ u, e = .returned u ∧ Ext w6 w'' ∧ Grows wx w'' ∧ isR12 N lab u w'') := fun wx hC => rel_call hC (uLabel_rel (HO.out.below hC) HOK.out hpl HSP.out)
      have C2 : Hid (∀ wx, Ext w6 wx → Calls Try.prog 12 #[.agg #[.int .i64 (N : Int), .slice ga ps.length gc]] wx fun e w'' => ∃ u, e = .returned u ∧ Ext w6 w'' ∧ Grows wx w'' ∧ isL N lab u w'') := fun wx hC => rel_call hC (rdLabel_rel (HO.out.below hC) HOK.out hpl HSP.out)
      have C3 : Hid (∀ wx, Ext w6 wx → Calls Try.prog 13 #[.agg #[.int .i64 (N : Int), .slice ga ps.length gc]] wx fun e w'' => ∃ u, e = .returned u ∧ Ext w6 w'' ∧ Grows wx w'' ∧ isR12 N rk u w'') := fun wx hC => rel_call hC (uRanks_rel (HO.out.below hC) HOK.out hpl HSP.out)
      have C4 : Hid (∀ wx, Ext w6 wx → Calls Try.prog 14 #[.agg #[.int .i64 (N : Int), .slice ga ps.length gc]] wx fun e w'' => ∃ u, e = .returned u ∧ Ext w6 w'' ∧ Grows wx w'' ∧ isL N rk u w'') := fun wx hC => rel_call hC (rdRanks_rel (HO.out.below hC) HOK.out hpl HSP.out)
      have CK : Hid (∀ wx u v xs, xs.length = N → Ext w6 wx → isR12 N xs u wx → isL N xs v wx → Calls Try.prog 10 #[u, v] wx fun e w'' => ∃ u, e = .returned u ∧ Ext w6 w'' ∧ Grows wx w'' ∧ isB true u w'') := fun wx u v xs hx hC h1 h2 => rel_call hC ((kInts_any u v xs xs wx (h1.il hx (by omega)) h2.il12 (by omega) (by omega)).mono fun e w'' ⟨k1, k2⟩ => ⟨_, k1, by rw [decide_eq_true rfl]; rfl, k2⟩)
      haveI := Ext.nonempty w6
      refine wp_region_rel (Ext w6) Grows (relTab [(21, isR12 N lab), (23, isL N lab), (24, isB true), (28, isR12 N rk), (30, isL N rk), (31, isB true)]) (by kernel_rfl) (by kernel_rfl) (by kernel_rfl) (stable_cons (isR12_up _ _) (stable_cons (isL_up _ _) (stable_cons (isB_up _) (stable_cons (isR12_up _ _) (stable_cons (isL_up _ _) (stable_cons (isB_up _) (stable_nil _))))))) (Ext.start w6) ?_
      repeat (
        refine' walkR_plain (by kernel_rfl) rfl rfl (fun wx hC hL => ?_) ?_
        rotate_left
        · (have hlx := Nat.lt_of_lt_of_le lx (Below.size hC)
           simp only [X0 wx hC, X1 wx hC, hlx, go_sem]; first | done | (go_simp; exact ⟨rfl, rfl⟩))
        simp only [Act.put, List.setIfInBounds_toArray, List.set_cons_zero, List.set_cons_succ])
      refine walkR_rel (by kernel_rfl) rfl rfl (of_decide_eq_true (by kernel_rfl)) (fun wx hC hL => ?_) (fun v hv => ?_)
      · go_simp
        exact C1.out wx hC
      obtain ⟨_, _, L1, rfl, -⟩ := hv
      simp only [Act.put, List.setIfInBounds_toArray, List.set_cons_zero, List.set_cons_succ]
      repeat (
        refine' walkR_plain (by kernel_rfl) rfl rfl (fun wx hC hL => ?_) ?_
        rotate_left
        · (have hlx := Nat.lt_of_lt_of_le lx (Below.size hC)
           simp only [X0 wx hC, X1 wx hC, hlx, go_sem]; first | done | (go_simp; exact ⟨rfl, rfl⟩))
        simp only [Act.put, List.setIfInBounds_toArray, List.set_cons_zero, List.set_cons_succ])
      refine walkR_rel (by kernel_rfl) rfl rfl (of_decide_eq_true (by kernel_rfl)) (fun wx hC hL => ?_) (fun v hv => ?_)
      · go_simp
        exact C2.out wx hC
      obtain ⟨_, _, a2, c2, rfl, -⟩ := hv
      simp only [Act.put, List.setIfInBounds_toArray, List.set_cons_zero, List.set_cons_succ]
      repeat (
        refine' walkR_plain (by kernel_rfl) rfl rfl (fun wx hC hL => ?_) ?_
        rotate_left
        · (have hlx := Nat.lt_of_lt_of_le lx (Below.size hC)
           simp only [X0 wx hC, X1 wx hC, hlx, go_sem]; first | done | (go_simp; exact ⟨rfl, rfl⟩))
        simp only [Act.put, List.setIfInBounds_toArray, List.set_cons_zero, List.set_cons_succ])
      refine walkR_rel (by kernel_rfl) rfl rfl (of_decide_eq_true (by kernel_rfl)) (fun wx hC hL => ?_) (fun v hv => ?_)
      · have h21 : isR12 N lab (.slice (some ⟨L1, 0, none⟩) N N) wx := hL.get 21 (by simp [more]) (by kernel_rfl) rfl rfl
        have h23 : isL N lab (.slice a2 N c2) wx := hL.get 23 (by simp [more]) (by kernel_rfl) rfl rfl
        go_simp
        exact CK.out wx _ _ lab HLL.out hC h21 h23
      obtain ⟨_, _, rfl⟩ := hv
      simp only [Act.put, List.setIfInBounds_toArray, List.set_cons_zero, List.set_cons_succ]
      repeat (
        refine' walkR_plain (by kernel_rfl) rfl rfl (fun wx hC hL => ?_) ?_
        rotate_left
        · (have hlx := Nat.lt_of_lt_of_le lx (Below.size hC)
           simp only [X0 wx hC, X1 wx hC, hlx, go_sem]; first | done | (go_simp; exact ⟨rfl, rfl⟩))
        simp only [Act.put, List.setIfInBounds_toArray, List.set_cons_zero, List.set_cons_succ])
      refine walkR_rel (by kernel_rfl) rfl rfl (of_decide_eq_true (by kernel_rfl)) (fun wx hC hL => ?_) (fun v hv => ?_)
      · go_simp
        exact C3.out wx hC
      obtain ⟨_, _, L3, rfl, -⟩ := hv
      simp only [Act.put, List.setIfInBounds_toArray, List.set_cons_zero, List.set_cons_succ]
      repeat (
        refine' walkR_plain (by kernel_rfl) rfl rfl (fun wx hC hL => ?_) ?_
        rotate_left
        · (have hlx := Nat.lt_of_lt_of_le lx (Below.size hC)
           simp only [X0 wx hC, X1 wx hC, hlx, go_sem]; first | done | (go_simp; exact ⟨rfl, rfl⟩))
        simp only [Act.put, List.setIfInBounds_toArray, List.set_cons_zero, List.set_cons_succ])
      refine walkR_rel (by kernel_rfl) rfl rfl (of_decide_eq_true (by kernel_rfl)) (fun wx hC hL => ?_) (fun v hv => ?_)
      · go_simp
        exact C4.out wx hC
      obtain ⟨_, _, a4, c4, rfl, -⟩ := hv
      simp only [Act.put, List.setIfInBounds_toArray, List.set_cons_zero, List.set_cons_succ]
      repeat (
        refine' walkR_plain (by kernel_rfl) rfl rfl (fun wx hC hL => ?_) ?_
        rotate_left
        · (have hlx := Nat.lt_of_lt_of_le lx (Below.size hC)
           simp only [X0 wx hC, X1 wx hC, hlx, go_sem]; first | done | (go_simp; exact ⟨rfl, rfl⟩))
        simp only [Act.put, List.setIfInBounds_toArray, List.set_cons_zero, List.set_cons_succ])
      refine walkR_rel (by kernel_rfl) rfl rfl (of_decide_eq_true (by kernel_rfl)) (fun wx hC hL => ?_) (fun v hv => ?_)
      · have h28 : isR12 N rk (.slice (some ⟨L3, 0, none⟩) N N) wx := hL.get 28 (by simp [more]) (by kernel_rfl) rfl rfl
        have h30 : isL N rk (.slice a4 N c4) wx := hL.get 30 (by simp [more]) (by kernel_rfl) rfl rfl
        go_simp
        exact CK.out wx _ _ rk HRL.out hC h28 h30
      obtain ⟨_, _, rfl⟩ := hv
      simp only [Act.put, List.setIfInBounds_toArray, List.set_cons_zero, List.set_cons_succ]
      repeat (
        refine' walkR_plain (by kernel_rfl) rfl rfl (fun wx hC hL => ?_) ?_
        rotate_left
        · (have hlx := Nat.lt_of_lt_of_le lx (Below.size hC)
           simp only [X0 wx hC, X1 wx hC, hlx, go_sem]; first | done | (go_simp; exact ⟨rfl, rfl⟩))
        simp only [Act.put, List.setIfInBounds_toArray, List.set_cons_zero, List.set_cons_succ])
      refine fun w7 hE7 _ => ?_
      have HB7 : Hid (Below w5.heap.size w5 w7) := HB6.out.trans (Below.mono hE7 HB6.out.size)
      clear hE7 X0 X1 C1 C2 C3 C4 CK x0 x1 lx
      go_wp2_with fail
      go_roundw
      case rel => exact ⟨k + 1, by omega, by go_num, HB7.out⟩
      case measure => simp [intOf]; omega
    · obtain rfl : k = 3 := by omega
      have hkI : ¬ ((3 : Nat) : Int) < 3 := by decide
      go_wp2_with fail
      refine (awake12_any _).mono ?_
      rintro e w30 ⟨rfl, hb⟩
      have HBF := hidIt ((HB5.out.trans (Below.mono HB.out HB5.out.size)).trans (Below.mono hb (Nat.le_trans HB5.out.size HB.out.size)))
      clear hb
      go_wp2_with fail
      go_ret
      exact ⟨rfl, HBF.out⟩
end Go.Proofs.Ytghnojmaciljoaa
