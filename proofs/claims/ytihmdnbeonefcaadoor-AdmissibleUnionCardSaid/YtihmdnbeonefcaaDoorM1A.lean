/- What the grounded labelling with its ranks is, and that there is only one. -/
import Derived.Test.YtihmdnbeonefcaaDoorG0K
namespace Go.Proofs.YtihmdnbeonefcaaDoor
set_option linter.unusedVariables false
set_option linter.unusedSimpArgs false
open Go Go.RowKit Go.Sort
/-- The node k attacks the node i. -/
def At (ps : List (Int × Int)) (k i : Nat) : Prop := ((k : Int), (i : Int)) ∈ ps
/-- The labels and the ranks are those of the rounds. -/
structure GSpec (N : Nat) (ps : List (Int × Int)) (lab rk : List Int) : Prop where
  ll : lab.length = N
  rl : rk.length = N
  lo : ∀ i, i < N → lab.getD i 0 = 1 ∨ lab.getD i 0 = 2 ∨ lab.getD i 0 = 3
  inn : ∀ i, i < N → lab.getD i 0 = 1 → 1 ≤ rk.getD i 0 ∧ (∀ k, At ps k i → lab.getD k 0 = 2 ∧ rk.getD k 0 < rk.getD i 0) ∧ (rk.getD i 0 = 1 ∨ ∃ k, At ps k i ∧ rk.getD k 0 = rk.getD i 0 - 1)
  out : ∀ i, i < N → lab.getD i 0 = 2 → 1 ≤ rk.getD i 0 ∧ (∃ k, At ps k i ∧ lab.getD k 0 = 1 ∧ rk.getD k 0 = rk.getD i 0) ∧ (∀ k, At ps k i → lab.getD k 0 = 1 → rk.getD i 0 ≤ rk.getD k 0)
  und : ∀ i, i < N → lab.getD i 0 = 3 → rk.getD i 0 = 0 ∧ (∃ k, At ps k i ∧ lab.getD k 0 = 3) ∧ (∀ k, At ps k i → lab.getD k 0 ≠ 1)

theorem at_lt {N : Nat} {ps : List (Int × Int)} (hix : ∀ p ∈ ps, (0 ≤ p.1 ∧ p.1 < (N : Int)) ∧ (0 ≤ p.2 ∧ p.2 < (N : Int))) {k i : Nat} (h : At ps k i) : k < N ∧ i < N := by
  have := hix _ h
  simp only at this
  omega
theorem gs_in {N : Nat} {ps : List (Int × Int)} (hix : ∀ p ∈ ps, (0 ≤ p.1 ∧ p.1 < (N : Int)) ∧ (0 ≤ p.2 ∧ p.2 < (N : Int))) {a r b s : List Int} (h1 : GSpec N ps a r) (h2 : GSpec N ps b s) {m : Nat}
    (IH : ∀ x, x < m → ∀ i, i < N → a.getD i 0 = 2 ∧ r.getD i 0 = (x : Int) → b.getD i 0 = 2 ∧ s.getD i 0 = (x : Int)) {i : Nat} (hi : i < N) (h : a.getD i 0 = 1 ∧ r.getD i 0 = (m : Int)) : b.getD i 0 = 1 ∧ s.getD i 0 = (m : Int) := by
  obtain ⟨ha, hr⟩ := h
  obtain ⟨k1, k2, k3⟩ := h1.inn i hi ha
  have key : ∀ k, At ps k i → b.getD k 0 = 2 ∧ s.getD k 0 = r.getD k 0 ∧ 1 ≤ r.getD k 0 ∧ r.getD k 0 < r.getD i 0 := fun k hk => by
    obtain ⟨e1, e2⟩ := k2 k hk
    have hkN := (at_lt hix hk).1
    have h5 := (h1.out k hkN e1).1
    obtain ⟨e3, e4⟩ := IH (r.getD k 0).toNat (by omega) k hkN ⟨e1, by omega⟩
    exact ⟨e3, by omega, h5, e2⟩
  rcases h2.lo i hi with e | e | e
  · refine ⟨e, ?_⟩
    obtain ⟨j1, j2, j3⟩ := h2.inn i hi e
    have up : s.getD i 0 ≤ r.getD i 0 := by
      rcases j3 with j3 | ⟨k, hk, j3⟩
      · omega
      · have := key k hk; omega
    have dn : r.getD i 0 ≤ s.getD i 0 := by
      rcases k3 with k3 | ⟨k, hk, k3⟩
      · omega
      · have := key k hk; have := (j2 k hk).2; omega
    omega
  · obtain ⟨-, ⟨k, hk, hb, -⟩, -⟩ := h2.out i hi e
    have := (key k hk).1; omega
  · obtain ⟨-, ⟨k, hk, hb⟩, -⟩ := h2.und i hi e
    have := (key k hk).1; omega
theorem gs_out {N : Nat} {ps : List (Int × Int)} (hix : ∀ p ∈ ps, (0 ≤ p.1 ∧ p.1 < (N : Int)) ∧ (0 ≤ p.2 ∧ p.2 < (N : Int))) {a r b s : List Int} (h1 : GSpec N ps a r) (h2 : GSpec N ps b s) {m : Nat}
    (F : ∀ i, i < N → a.getD i 0 = 1 ∧ r.getD i 0 = (m : Int) → b.getD i 0 = 1 ∧ s.getD i 0 = (m : Int))
    (G : ∀ x, x ≤ m → ∀ i, i < N → b.getD i 0 = 1 ∧ s.getD i 0 = (x : Int) → a.getD i 0 = 1 ∧ r.getD i 0 = (x : Int)) {i : Nat} (hi : i < N) (h : a.getD i 0 = 2 ∧ r.getD i 0 = (m : Int)) : b.getD i 0 = 2 ∧ s.getD i 0 = (m : Int) := by
  obtain ⟨ha, hr⟩ := h
  obtain ⟨k1, ⟨k, hk, ka, kr⟩, k3⟩ := h1.out i hi ha
  obtain ⟨kb, ks⟩ := F k (at_lt hix hk).1 ⟨ka, by omega⟩
  rcases h2.lo i hi with e | e | e
  · have := ((h2.inn i hi e).2.1 k hk).1; omega
  · refine ⟨e, ?_⟩
    obtain ⟨j1, ⟨q, hq, jb, js⟩, j3⟩ := h2.out i hi e
    have h5 := j3 k hk kb
    obtain ⟨e1, e2⟩ := G (s.getD q 0).toNat (by omega) q (at_lt hix hq).1 ⟨jb, by omega⟩
    have := k3 q hq e1
    omega
  · exact absurd kb ((h2.und i hi e).2.2 k hk)
theorem gs_all {N : Nat} {ps : List (Int × Int)} (hix : ∀ p ∈ ps, (0 ≤ p.1 ∧ p.1 < (N : Int)) ∧ (0 ≤ p.2 ∧ p.2 < (N : Int))) {a r b s : List Int} (h1 : GSpec N ps a r) (h2 : GSpec N ps b s) (m : Nat) :
    ∀ x, x < m → ∀ i, i < N → ((a.getD i 0 = 1 ∧ r.getD i 0 = (x : Int) → b.getD i 0 = 1 ∧ s.getD i 0 = (x : Int)) ∧ (b.getD i 0 = 1 ∧ s.getD i 0 = (x : Int) → a.getD i 0 = 1 ∧ r.getD i 0 = (x : Int))) ∧ ((a.getD i 0 = 2 ∧ r.getD i 0 = (x : Int) → b.getD i 0 = 2 ∧ s.getD i 0 = (x : Int)) ∧ (b.getD i 0 = 2 ∧ s.getD i 0 = (x : Int) → a.getD i 0 = 2 ∧ r.getD i 0 = (x : Int))) := by
  induction m with
  | zero => intro x hx; omega
  | succ m ih =>
    intro x hx
    by_cases hxm : x < m
    · exact ih x hxm
    obtain rfl : x = m := by omega
    have I1 : ∀ i, i < N → a.getD i 0 = 1 ∧ r.getD i 0 = (x : Int) → b.getD i 0 = 1 ∧ s.getD i 0 = (x : Int) := fun i hi h => gs_in hix h1 h2 (fun y hy j hj => (ih y hy j hj).2.1) hi h
    have I2 : ∀ i, i < N → b.getD i 0 = 1 ∧ s.getD i 0 = (x : Int) → a.getD i 0 = 1 ∧ r.getD i 0 = (x : Int) := fun i hi h => gs_in hix h2 h1 (fun y hy j hj => (ih y hy j hj).2.2) hi h
    intro i hi
    refine ⟨⟨I1 i hi, I2 i hi⟩, fun h => gs_out hix h1 h2 I1 (fun y hy j hj => ?_) hi h, fun h => gs_out hix h2 h1 I2 (fun y hy j hj => ?_) hi h⟩
    · by_cases e : y < x
      · exact (ih y e j hj).1.2
      · obtain rfl : y = x := by omega
        exact I2 j hj
    · by_cases e : y < x
      · exact (ih y e j hj).1.1
      · obtain rfl : y = x := by omega
        exact I1 j hj
theorem getD_eq {a b : List Int} {N : Nat} (ha : a.length = N) (hb : b.length = N) (h : ∀ i, i < N → a.getD i 0 = b.getD i 0) : a = b := by
  apply List.ext_getElem (by omega)
  intro i h1 h2
  have := h i (by omega)
  rw [List.getD_eq_getElem?_getD, List.getD_eq_getElem?_getD, List.getElem?_eq_getElem h1, List.getElem?_eq_getElem h2] at this
  exact this
theorem GSpec.uniq {N : Nat} {ps : List (Int × Int)} (hix : ∀ p ∈ ps, (0 ≤ p.1 ∧ p.1 < (N : Int)) ∧ (0 ≤ p.2 ∧ p.2 < (N : Int))) {a r b s : List Int} (h1 : GSpec N ps a r) (h2 : GSpec N ps b s) : a = b ∧ r = s := by
  have key : ∀ i, i < N → a.getD i 0 = b.getD i 0 ∧ r.getD i 0 = s.getD i 0 := fun i hi => by
    have fwd := gs_all hix h1 h2 ((r.getD i 0).toNat + 1) (r.getD i 0).toNat (by omega) i hi
    have bwd := gs_all hix h1 h2 ((s.getD i 0).toNat + 1) (s.getD i 0).toNat (by omega) i hi
    rcases h1.lo i hi with e | e | e
    · have := (h1.inn i hi e).1
      have := fwd.1.1 ⟨e, by omega⟩
      omega
    · have := (h1.out i hi e).1
      have := fwd.2.1 ⟨e, by omega⟩
      omega
    · have h0 := (h1.und i hi e).1
      rcases h2.lo i hi with f | f | f
      · have := (h2.inn i hi f).1
        have := bwd.1.2 ⟨f, by omega⟩
        omega
      · have := (h2.out i hi f).1
        have := bwd.2.2 ⟨f, by omega⟩
        omega
      · have := (h2.und i hi f).1
        omega
  exact ⟨getD_eq h1.ll h2.ll fun i hi => (key i hi).1, getD_eq h1.rl h2.rl fun i hi => (key i hi).2⟩
theorem GOk.nodup {n : Int} {ps : List (Int × Int)} (h : GOk n ps) : ps.Nodup := by
  rw [List.nodup_iff_pairwise_ne]
  refine h.up.imp fun {a b} hab e => ?_
  subst e
  unfold geP at hab
  simp at hab
end Go.Proofs.YtihmdnbeonefcaaDoor
