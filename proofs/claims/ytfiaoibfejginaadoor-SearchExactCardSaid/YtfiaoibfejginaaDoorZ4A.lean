/- What the grounded labelling with its ranks is, and that there is only one. The rounds with a queue, as a function; what they keep; at the end the labels and ranks are those of the rounds. slices.BinarySearchFunc at pairs by their first numbers; the attacks of a node (attacksBy). -/
import Derived.Test.YtfiaoibfejginaaDoorG0K
import Derived.Test.YtfiaoibfejginaaDoorG0I

namespace Go.Proofs.YtfiaoibfejginaaDoor
set_option linter.unusedVariables false
set_option linter.unusedSimpArgs false
open Go Go.RowKit Go.Sort
/-- The node k attacks the node i. -/
def At (ps : List (Int × Int)) (k i : Nat) : Prop := ((k : Int), (i : Int)) ∈ ps
/-- The labels and the ranks are those of the rounds. -/
structure GSpec (N : Nat) (ps : List (Int × Int)) (lab rk : List Int) : Prop where
  ll : lab.length = N
  rl : rk.length = N
  lo : ∀ i, i < N → lab.getD i 0 = 1 ∨ lab.getD i 0 = 2 ∨ lab.getD i 0 = 3
  inn : ∀ i, i < N → lab.getD i 0 = 1 → 1 ≤ rk.getD i 0 ∧ (∀ k, At ps k i → lab.getD k 0 = 2 ∧ rk.getD k 0 < rk.getD i 0) ∧ (rk.getD i 0 = 1 ∨ ∃ k, At ps k i ∧ rk.getD k 0 = rk.getD i 0 - 1)
  out : ∀ i, i < N → lab.getD i 0 = 2 → 1 ≤ rk.getD i 0 ∧ (∃ k, At ps k i ∧ lab.getD k 0 = 1 ∧ rk.getD k 0 = rk.getD i 0) ∧ (∀ k, At ps k i → lab.getD k 0 = 1 → rk.getD i 0 ≤ rk.getD k 0)
  und : ∀ i, i < N → lab.getD i 0 = 3 → rk.getD i 0 = 0 ∧ (∃ k, At ps k i ∧ lab.getD k 0 = 3) ∧ (∀ k, At ps k i → lab.getD k 0 ≠ 1)

theorem at_lt {N : Nat} {ps : List (Int × Int)} (hix : ∀ p ∈ ps, (0 ≤ p.1 ∧ p.1 < (N : Int)) ∧ (0 ≤ p.2 ∧ p.2 < (N : Int))) {k i : Nat} (h : At ps k i) : k < N ∧ i < N := by
  have := hix _ h
  simp only at this
  omega
theorem gs_in {N : Nat} {ps : List (Int × Int)} (hix : ∀ p ∈ ps, (0 ≤ p.1 ∧ p.1 < (N : Int)) ∧ (0 ≤ p.2 ∧ p.2 < (N : Int))) {a r b s : List Int} (h1 : GSpec N ps a r) (h2 : GSpec N ps b s) {m : Nat}
    (IH : ∀ x, x < m → ∀ i, i < N → a.getD i 0 = 2 ∧ r.getD i 0 = (x : Int) → b.getD i 0 = 2 ∧ s.getD i 0 = (x : Int)) {i : Nat} (hi : i < N) (h : a.getD i 0 = 1 ∧ r.getD i 0 = (m : Int)) : b.getD i 0 = 1 ∧ s.getD i 0 = (m : Int) := by
  obtain ⟨ha, hr⟩ := h
  obtain ⟨k1, k2, k3⟩ := h1.inn i hi ha
  have key : ∀ k, At ps k i → b.getD k 0 = 2 ∧ s.getD k 0 = r.getD k 0 ∧ 1 ≤ r.getD k 0 ∧ r.getD k 0 < r.getD i 0 := fun k hk => by
    obtain ⟨e1, e2⟩ := k2 k hk
    have hkN := (at_lt hix hk).1
    have h5 := (h1.out k hkN e1).1
    obtain ⟨e3, e4⟩ := IH (r.getD k 0).toNat (by omega) k hkN ⟨e1, by omega⟩
    exact ⟨e3, by omega, h5, e2⟩
  rcases h2.lo i hi with e | e | e
  · refine ⟨e, ?_⟩
    obtain ⟨j1, j2, j3⟩ := h2.inn i hi e
    have up : s.getD i 0 ≤ r.getD i 0 := by
      rcases j3 with j3 | ⟨k, hk, j3⟩
      · omega
      · have := key k hk; omega
    have dn : r.getD i 0 ≤ s.getD i 0 := by
      rcases k3 with k3 | ⟨k, hk, k3⟩
      · omega
      · have := key k hk; have := (j2 k hk).2; omega
    omega
  · obtain ⟨-, ⟨k, hk, hb, -⟩, -⟩ := h2.out i hi e
    have := (key k hk).1; omega
  · obtain ⟨-, ⟨k, hk, hb⟩, -⟩ := h2.und i hi e
    have := (key k hk).1; omega
theorem gs_out {N : Nat} {ps : List (Int × Int)} (hix : ∀ p ∈ ps, (0 ≤ p.1 ∧ p.1 < (N : Int)) ∧ (0 ≤ p.2 ∧ p.2 < (N : Int))) {a r b s : List Int} (h1 : GSpec N ps a r) (h2 : GSpec N ps b s) {m : Nat}
    (F : ∀ i, i < N → a.getD i 0 = 1 ∧ r.getD i 0 = (m : Int) → b.getD i 0 = 1 ∧ s.getD i 0 = (m : Int))
    (G : ∀ x, x ≤ m → ∀ i, i < N → b.getD i 0 = 1 ∧ s.getD i 0 = (x : Int) → a.getD i 0 = 1 ∧ r.getD i 0 = (x : Int)) {i : Nat} (hi : i < N) (h : a.getD i 0 = 2 ∧ r.getD i 0 = (m : Int)) : b.getD i 0 = 2 ∧ s.getD i 0 = (m : Int) := by
  obtain ⟨ha, hr⟩ := h
  obtain ⟨k1, ⟨k, hk, ka, kr⟩, k3⟩ := h1.out i hi ha
  obtain ⟨kb, ks⟩ := F k (at_lt hix hk).1 ⟨ka, by omega⟩
  rcases h2.lo i hi with e | e | e
  · have := ((h2.inn i hi e).2.1 k hk).1; omega
  · refine ⟨e, ?_⟩
    obtain ⟨j1, ⟨q, hq, jb, js⟩, j3⟩ := h2.out i hi e
    have h5 := j3 k hk kb
    obtain ⟨e1, e2⟩ := G (s.getD q 0).toNat (by omega) q (at_lt hix hq).1 ⟨jb, by omega⟩
    have := k3 q hq e1
    omega
  · exact absurd kb ((h2.und i hi e).2.2 k hk)
theorem gs_all {N : Nat} {ps : List (Int × Int)} (hix : ∀ p ∈ ps, (0 ≤ p.1 ∧ p.1 < (N : Int)) ∧ (0 ≤ p.2 ∧ p.2 < (N : Int))) {a r b s : List Int} (h1 : GSpec N ps a r) (h2 : GSpec N ps b s) (m : Nat) :
    ∀ x, x < m → ∀ i, i < N → ((a.getD i 0 = 1 ∧ r.getD i 0 = (x : Int) → b.getD i 0 = 1 ∧ s.getD i 0 = (x : Int)) ∧ (b.getD i 0 = 1 ∧ s.getD i 0 = (x : Int) → a.getD i 0 = 1 ∧ r.getD i 0 = (x : Int))) ∧ ((a.getD i 0 = 2 ∧ r.getD i 0 = (x : Int) → b.getD i 0 = 2 ∧ s.getD i 0 = (x : Int)) ∧ (b.getD i 0 = 2 ∧ s.getD i 0 = (x : Int) → a.getD i 0 = 2 ∧ r.getD i 0 = (x : Int))) := by
  induction m with
  | zero => intro x hx; omega
  | succ m ih =>
    intro x hx
    by_cases hxm : x < m
    · exact ih x hxm
    obtain rfl : x = m := by omega
    have I1 : ∀ i, i < N → a.getD i 0 = 1 ∧ r.getD i 0 = (x : Int) → b.getD i 0 = 1 ∧ s.getD i 0 = (x : Int) := fun i hi h => gs_in hix h1 h2 (fun y hy j hj => (ih y hy j hj).2.1) hi h
    have I2 : ∀ i, i < N → b.getD i 0 = 1 ∧ s.getD i 0 = (x : Int) → a.getD i 0 = 1 ∧ r.getD i 0 = (x : Int) := fun i hi h => gs_in hix h2 h1 (fun y hy j hj => (ih y hy j hj).2.2) hi h
    intro i hi
    refine ⟨⟨I1 i hi, I2 i hi⟩, fun h => gs_out hix h1 h2 I1 (fun y hy j hj => ?_) hi h, fun h => gs_out hix h2 h1 I2 (fun y hy j hj => ?_) hi h⟩
    · by_cases e : y < x
      · exact (ih y e j hj).1.2
      · obtain rfl : y = x := by omega
        exact I2 j hj
    · by_cases e : y < x
      · exact (ih y e j hj).1.1
      · obtain rfl : y = x := by omega
        exact I1 j hj
theorem getD_eq {a b : List Int} {N : Nat} (ha : a.length = N) (hb : b.length = N) (h : ∀ i, i < N → a.getD i 0 = b.getD i 0) : a = b := by
  apply List.ext_getElem (by omega)
  intro i h1 h2
  have := h i (by omega)
  rw [List.getD_eq_getElem?_getD, List.getD_eq_getElem?_getD, List.getElem?_eq_getElem h1, List.getElem?_eq_getElem h2] at this
  exact this
theorem GSpec.uniq {N : Nat} {ps : List (Int × Int)} (hix : ∀ p ∈ ps, (0 ≤ p.1 ∧ p.1 < (N : Int)) ∧ (0 ≤ p.2 ∧ p.2 < (N : Int))) {a r b s : List Int} (h1 : GSpec N ps a r) (h2 : GSpec N ps b s) : a = b ∧ r = s := by
  have key : ∀ i, i < N → a.getD i 0 = b.getD i 0 ∧ r.getD i 0 = s.getD i 0 := fun i hi => by
    have fwd := gs_all hix h1 h2 ((r.getD i 0).toNat + 1) (r.getD i 0).toNat (by omega) i hi
    have bwd := gs_all hix h1 h2 ((s.getD i 0).toNat + 1) (s.getD i 0).toNat (by omega) i hi
    rcases h1.lo i hi with e | e | e
    · have := (h1.inn i hi e).1
      have := fwd.1.1 ⟨e, by omega⟩
      omega
    · have := (h1.out i hi e).1
      have := fwd.2.1 ⟨e, by omega⟩
      omega
    · have h0 := (h1.und i hi e).1
      rcases h2.lo i hi with f | f | f
      · have := (h2.inn i hi f).1
        have := bwd.1.2 ⟨f, by omega⟩
        omega
      · have := (h2.out i hi f).1
        have := bwd.2.2 ⟨f, by omega⟩
        omega
      · have := (h2.und i hi f).1
        omega
  exact ⟨getD_eq h1.ll h2.ll fun i hi => (key i hi).1, getD_eq h1.rl h2.rl fun i hi => (key i hi).2⟩
theorem GOk.nodup {n : Int} {ps : List (Int × Int)} (h : GOk n ps) : ps.Nodup := by
  rw [List.nodup_iff_pairwise_ne]
  refine h.up.imp fun {a b} hab e => ?_
  subst e
  unfold geP at hab
  simp at hab
end Go.Proofs.YtfiaoibfejginaaDoor

namespace Go.Proofs.YtfiaoibfejginaaDoor
set_option linter.unusedVariables false
set_option linter.unusedSimpArgs false
open Go Go.RowKit Go.Sort
/-- The nodes that j attacks; the nodes that attack i. -/
def outs (ps : List (Int × Int)) (j : Nat) : List Nat := (ps.filter fun p => p.1 == (j : Int)).map fun p => p.2.toNat
def ins (ps : List (Int × Int)) (i : Nat) : List Nat := (ps.filter fun p => p.2 == (i : Int)).map fun p => p.1.toNat
theorem mem_outs {N : Nat} {ps : List (Int × Int)} (hix : ∀ p ∈ ps, (0 ≤ p.1 ∧ p.1 < (N : Int)) ∧ (0 ≤ p.2 ∧ p.2 < (N : Int))) {j t : Nat} : t ∈ outs ps j ↔ At ps j t := by
  unfold outs At
  rw [List.mem_map]
  constructor
  · rintro ⟨p, hp, rfl⟩
    obtain ⟨hp, he⟩ := List.mem_filter.1 hp
    have he : p.1 = (j : Int) := by simpa using he
    have := hix p hp
    have e2 : ((j : Int), (p.2.toNat : Int)) = p := Prod.ext he.symm (by simp only; omega)
    rw [e2]; exact hp
  · intro h
    exact ⟨_, List.mem_filter.2 ⟨h, by simp⟩, by simp⟩
theorem mem_ins {N : Nat} {ps : List (Int × Int)} (hix : ∀ p ∈ ps, (0 ≤ p.1 ∧ p.1 < (N : Int)) ∧ (0 ≤ p.2 ∧ p.2 < (N : Int))) {k i : Nat} : k ∈ ins ps i ↔ At ps k i := by
  unfold ins At
  rw [List.mem_map]
  constructor
  · rintro ⟨p, hp, rfl⟩
    obtain ⟨hp, he⟩ := List.mem_filter.1 hp
    have he : p.2 = (i : Int) := by simpa using he
    have := hix p hp
    have e2 : ((p.1.toNat : Int), (i : Int)) = p := Prod.ext (by simp only; omega) he.symm
    rw [e2]; exact hp
  · intro h
    exact ⟨_, List.mem_filter.2 ⟨h, by simp⟩, by simp⟩
theorem outs_nodup {N : Nat} {ps : List (Int × Int)} (hix : ∀ p ∈ ps, (0 ≤ p.1 ∧ p.1 < (N : Int)) ∧ (0 ≤ p.2 ∧ p.2 < (N : Int))) (hnd : ps.Nodup) (j : Nat) : (outs ps j).Nodup := by
  unfold outs
  rw [List.nodup_iff_pairwise_ne, List.pairwise_map]
  refine List.Pairwise.imp_of_mem ?_ ((List.nodup_iff_pairwise_ne.1 hnd).filter _)
  intro a b ha hb hne e
  obtain ⟨ha, ea⟩ := List.mem_filter.1 ha
  obtain ⟨hb, eb⟩ := List.mem_filter.1 hb
  have ea : a.1 = (j : Int) := by simpa using ea
  have eb : b.1 = (j : Int) := by simpa using eb
  have := hix a ha; have := hix b hb
  exact hne (Prod.ext (by omega) (by omega))
theorem ins_nodup {N : Nat} {ps : List (Int × Int)} (hix : ∀ p ∈ ps, (0 ≤ p.1 ∧ p.1 < (N : Int)) ∧ (0 ≤ p.2 ∧ p.2 < (N : Int))) (hnd : ps.Nodup) (j : Nat) : (ins ps j).Nodup := by
  unfold ins
  rw [List.nodup_iff_pairwise_ne, List.pairwise_map]
  refine List.Pairwise.imp_of_mem ?_ ((List.nodup_iff_pairwise_ne.1 hnd).filter _)
  intro a b ha hb hne e
  obtain ⟨ha, ea⟩ := List.mem_filter.1 ha
  obtain ⟨hb, eb⟩ := List.mem_filter.1 hb
  have ea : a.2 = (j : Int) := by simpa using ea
  have eb : b.2 = (j : Int) := by simpa using eb
  have := hix a ha; have := hix b hb
  exact hne (Prod.ext (by omega) (by omega))
theorem set_getD (l : List Int) (i j : Nat) (v : Int) (hi : i < l.length) : (l.set i v).getD j 0 = if j = i then v else l.getD j 0 := by
  rw [List.getD_eq_getElem?_getD, List.getD_eq_getElem?_getD, List.getElem?_set]
  by_cases e : i = j
  · subst e; simp [hi]
  · rw [if_neg e, if_neg (Ne.symm e)]
theorem count_off {l : List Nat} (hnd : l.Nodup) {f g : Nat → Bool} {j : Nat} (hj : j ∈ l) (hf : f j = true) (hg : g j = false) (he : ∀ k, k ≠ j → g k = f k) : l.countP f = l.countP g + 1 := by
  induction l with
  | nil => cases hj
  | cons a r ih =>
    obtain ⟨ha, hr⟩ := List.nodup_cons.1 hnd
    by_cases e : a = j
    · subst e
      rw [List.countP_cons_of_pos hf, List.countP_cons_of_neg (by rw [hg]; decide)]
      congr 1
      refine List.countP_congr fun k hk => ?_
      rw [he k (fun e => ha (e ▸ hk))]
    · have hj' : j ∈ r := (List.mem_cons.1 hj).resolve_left (fun h => e h.symm)
      have := ih hr hj'
      rw [List.countP_cons, List.countP_cons, he a e]
      omega

/-- The state of the rounds. -/
structure QS where
  lab : List Int
  rk : List Int
  opn : List Int
  q : List Nat
def acc (s : QS) (i : Nat) (r : Int) : QS := ⟨s.lab.set i 1, s.rk.set i r, s.opn, s.q ++ [i]⟩
def cnt (r : Int) (s : QS) (t : Nat) : QS :=
  if s.opn.getD t 0 - 1 = 0 then acc ⟨s.lab, s.rk, s.opn.set t (s.opn.getD t 0 - 1), s.q⟩ t (r + 1) else ⟨s.lab, s.rk, s.opn.set t (s.opn.getD t 0 - 1), s.q⟩
def rej (ps : List (Int × Int)) (s : QS) (j : Nat) (r : Int) : QS := (outs ps j).foldl (cnt r) ⟨s.lab.set j 2, s.rk.set j r, s.opn, s.q⟩
def hit (ps : List (Int × Int)) (i : Nat) (s : QS) (t : Nat) : QS := if s.lab.getD t 0 = 3 then rej ps s t (s.rk.getD i 0) else s
def rejA (ps : List (Int × Int)) (s : QS) (i : Nat) : QS := (outs ps i).foldl (hit ps i) s

/-- What the rounds keep; C: which attacks have been counted; r: the round of the node of the queue. -/
structure Inv (N : Nat) (ps : List (Int × Int)) (s : QS) (C : Nat → Nat → Bool) (r : Int) : Prop where
  ll : s.lab.length = N
  rl : s.rk.length = N
  ol : s.opn.length = 40
  lo : ∀ i, i < N → s.lab.getD i 0 = 1 ∨ s.lab.getD i 0 = 2 ∨ s.lab.getD i 0 = 3
  op : ∀ i, i < N → s.opn.getD i 0 = (((ins ps i).countP fun k => !C k i : Nat) : Int)
  cl : ∀ k i, C k i = true → k < N → s.lab.getD k 0 = 2
  qin : ∀ i, i ∈ s.q ↔ i < N ∧ s.lab.getD i 0 = 1
  qnd : s.q.Nodup
  zero : ∀ i, i < N → s.opn.getD i 0 = 0 → s.lab.getD i 0 = 1
  inn : ∀ i, i < N → s.lab.getD i 0 = 1 → (1 ≤ s.rk.getD i 0 ∧ s.rk.getD i 0 ≤ r + 1) ∧ (∀ k, At ps k i → C k i = true ∧ s.rk.getD k 0 < s.rk.getD i 0) ∧ (s.rk.getD i 0 = 1 ∨ ∃ k, At ps k i ∧ s.rk.getD k 0 = s.rk.getD i 0 - 1)
  out : ∀ i, i < N → s.lab.getD i 0 = 2 → (1 ≤ s.rk.getD i 0 ∧ s.rk.getD i 0 ≤ r) ∧ (∃ k, At ps k i ∧ s.lab.getD k 0 = 1 ∧ s.rk.getD k 0 = s.rk.getD i 0) ∧ (∀ k, At ps k i → s.lab.getD k 0 = 1 → s.rk.getD i 0 ≤ s.rk.getD k 0)
  und : ∀ i, i < N → s.lab.getD i 0 = 3 → s.rk.getD i 0 = 0
  srt : s.q.Pairwise fun a b => s.rk.getD a 0 ≤ s.rk.getD b 0
/-- All attacks of the nodes that are Out have been counted. -/
def Full (N : Nat) (ps : List (Int × Int)) (s : QS) (C : Nat → Nat → Bool) : Prop := ∀ k i, k < N → s.lab.getD k 0 = 2 → At ps k i → C k i = true
/-- The first m nodes of the queue have been gone through. -/
def Gone (ps : List (Int × Int)) (s : QS) (m : Nat) : Prop := ∀ a, a < m → ∀ t, At ps (s.q.getD a 0) t → s.lab.getD t 0 = 2

section
variable {N : Nat} {ps : List (Int × Int)} (hix : ∀ p ∈ ps, (0 ≤ p.1 ∧ p.1 < (N : Int)) ∧ (0 ≤ p.2 ∧ p.2 < (N : Int))) (hnd : ps.Nodup) (hN : N ≤ 40)
include hix hnd hN

/-- One attack of a node that is Out is counted. -/
theorem inv_cnt {s : QS} {C : Nat → Nat → Bool} {r : Int} (h : Inv N ps s C r) {j t : Nat} (ha : At ps j t) (hj : s.lab.getD j 0 = 2) (hr : s.rk.getD j 0 = r) (hC : C j t = false) :
    Inv N ps (cnt r s t) (fun k i => C k i || (k == j && i == t)) r ∧ (cnt r s t).lab.getD j 0 = 2 ∧ (cnt r s t).rk.getD j 0 = r ∧ (∀ k, s.lab.getD k 0 = 2 → (cnt r s t).lab.getD k 0 = 2) ∧ (∀ k, (cnt r s t).lab.getD k 0 = 2 → s.lab.getD k 0 = 2) ∧ (∃ l, (cnt r s t).q = s.q ++ l) ∧ (∀ k, s.lab.getD k 0 = 1 → (cnt r s t).rk.getD k 0 = s.rk.getD k 0) := by
  obtain ⟨hjN, htN⟩ := at_lt hix ha
  have hr1 : 1 ≤ r := by have := (h.out j hjN hj).1; omega
  have hcount : (ins ps t).countP (fun k => !C k t) = (ins ps t).countP (fun k => !(C k t || (k == j && t == t))) + 1 :=
    count_off (ins_nodup hix hnd t) ((mem_ins hix).2 ha) (by rw [hC]; rfl) (by simp) (fun k hk => by simp [hk])
  have hsame : ∀ i, i ≠ t → (ins ps i).countP (fun k => !(C k i || (k == j && i == t))) = (ins ps i).countP (fun k => !C k i) := fun i hi => by
    refine List.countP_congr fun k _ => ?_
    simp [hi]
  have hot := h.op t htN
  have hol := h.ol
  have hopn : ∀ i, i < N → (s.opn.set t (s.opn.getD t 0 - 1)).getD i 0 = (((ins ps i).countP fun k => !(C k i || (k == j && i == t)) : Nat) : Int) := fun i hi => by
    rw [set_getD _ _ _ _ (by omega)]
    by_cases e : i = t
    · subst e; rw [if_pos rfl]; omega
    · rw [if_neg e, hsame i e]; exact h.op i hi
  have hcl : ∀ k i, (C k i || (k == j && i == t)) = true → k < N → s.lab.getD k 0 = 2 := fun k i hk hkN => by
    rcases Bool.or_eq_true _ _ ▸ hk with hk | hk
    · exact h.cl k i hk hkN
    · rw [Bool.and_eq_true, beq_iff_eq] at hk
      rw [hk.1]; exact hj
  by_cases ho : s.opn.getD t 0 - 1 = 0
  · -- t becomes In
    have hnone : ∀ k, At ps k t → (C k t || (k == j && t == t)) = true := fun k hk => by
      have h0 : (ins ps t).countP (fun k => !(C k t || (k == j && t == t))) = 0 := by omega
      have := (List.countP_eq_zero.1 h0) k ((mem_ins hix).2 hk)
      cases hx : (C k t || (k == j && t == t))
      · rw [hx] at this; exact absurd rfl this
      · rfl
    have ht3 : s.lab.getD t 0 = 3 := by
      rcases h.lo t htN with e | e | e
      · have := ((h.inn t htN e).2.1 j ha).1; rw [hC] at this; cases this
      · obtain ⟨-, ⟨k, hk, hk1, -⟩, -⟩ := h.out t htN e
        have := hcl k t (hnone k hk) (at_lt hix hk).1
        omega
      · exact e
    have htj : t ≠ j := fun e => by subst e; omega
    have htq : t ∉ s.q := fun e => by have := ((h.qin t).1 e).2; omega
    have e0 : cnt r s t = ⟨s.lab.set t 1, s.rk.set t (r + 1), s.opn.set t (s.opn.getD t 0 - 1), s.q ++ [t]⟩ := by
      unfold cnt; rw [if_pos ho]; rfl
    rw [e0]
    have L : ∀ i, (s.lab.set t 1).getD i 0 = if i = t then 1 else s.lab.getD i 0 := fun i => set_getD _ _ _ _ (by rw [h.ll]; exact htN)
    have R : ∀ i, (s.rk.set t (r + 1)).getD i 0 = if i = t then r + 1 else s.rk.getD i 0 := fun i => set_getD _ _ _ _ (by rw [h.rl]; exact htN)
    have Lk : ∀ k, s.lab.getD k 0 = 2 → (s.lab.set t 1).getD k 0 = 2 := fun k hk => by rw [L, if_neg (fun e => by subst e; omega)]; exact hk
    have Rk : ∀ k, s.lab.getD k 0 = 2 → (s.rk.set t (r + 1)).getD k 0 = s.rk.getD k 0 := fun k hk => by rw [R, if_neg (fun e => by subst e; omega)]
    refine ⟨⟨?_, ?_, ?_, ?_, hopn, ?_, ?_, ?_, ?_, ?_, ?_, ?_, ?_⟩, Lk j hj, ?_, Lk, ?_, ⟨[t], rfl⟩, ?_⟩
    · show (s.lab.set t 1).length = N; rw [List.length_set]; exact h.ll
    · show (s.rk.set t (r + 1)).length = N; rw [List.length_set]; exact h.rl
    · show (s.opn.set t _).length = 40; rw [List.length_set]; exact h.ol
    · intro i hi
      show (s.lab.set t 1).getD i 0 = 1 ∨ (s.lab.set t 1).getD i 0 = 2 ∨ (s.lab.set t 1).getD i 0 = 3
      rw [L]; split
      · exact .inl rfl
      · exact h.lo i hi
    · intro k i hk hkN
      exact Lk k (hcl k i hk hkN)
    · intro i
      show i ∈ s.q ++ [t] ↔ i < N ∧ (s.lab.set t 1).getD i 0 = 1
      rw [List.mem_append, List.mem_singleton, h.qin i, L]
      by_cases e : i = t
      · subst e; simp [htN]
      · simp [e]
    · show (s.q ++ [t]).Nodup
      rw [List.nodup_append]
      exact ⟨h.qnd, by simp, fun a hm b hb => by rw [List.mem_singleton] at hb; rw [hb]; exact fun e => htq (e ▸ hm)⟩
    · intro i hi
      show (s.opn.set t _).getD i 0 = 0 → (s.lab.set t 1).getD i 0 = 1
      rw [set_getD _ _ _ _ (by omega), L]
      by_cases e : i = t
      · intro _; rw [if_pos e]
      · rw [if_neg e, if_neg e]; exact h.zero i hi
    · intro i hi
      show (s.lab.set t 1).getD i 0 = 1 → _
      intro h1
      rw [L] at h1
      by_cases e : i = t
      · subst e
        show (1 ≤ (s.rk.set i (r + 1)).getD i 0 ∧ (s.rk.set i (r + 1)).getD i 0 ≤ r + 1) ∧ _
        rw [R, if_pos rfl]
        refine ⟨by omega, fun k hk => ⟨hnone k hk, ?_⟩, .inr ⟨j, ha, ?_⟩⟩
        · have hk2 := hcl k i (hnone k hk) (at_lt hix hk).1
          show (s.rk.set i (r + 1)).getD k 0 < _
          rw [Rk k hk2]
          have := (h.out k (at_lt hix hk).1 hk2).1
          omega
        · show (s.rk.set i (r + 1)).getD j 0 = _
          rw [Rk j hj]; omega
      · rw [if_neg e] at h1
        obtain ⟨g1, g2, g3⟩ := h.inn i hi h1
        show (1 ≤ (s.rk.set t (r + 1)).getD i 0 ∧ (s.rk.set t (r + 1)).getD i 0 ≤ r + 1) ∧ _
        rw [R, if_neg e]
        refine ⟨g1, fun k hk => ⟨by rw [(g2 k hk).1]; rfl, ?_⟩, ?_⟩
        · show (s.rk.set t (r + 1)).getD k 0 < _
          rw [Rk k (h.cl k i (g2 k hk).1 (at_lt hix hk).1)]
          exact (g2 k hk).2
        · rcases g3 with g3 | ⟨k, hk, g3⟩
          · exact .inl g3
          · refine .inr ⟨k, hk, ?_⟩
            show (s.rk.set t (r + 1)).getD k 0 = _
            rw [Rk k (h.cl k i (g2 k hk).1 (at_lt hix hk).1)]
            exact g3
    · intro i hi
      show (s.lab.set t 1).getD i 0 = 2 → _
      intro h2
      rw [L] at h2
      have e : i ≠ t := fun e => by rw [if_pos e] at h2; omega
      rw [if_neg e] at h2
      obtain ⟨g1, ⟨k, hk, g2, g3⟩, g4⟩ := h.out i hi h2
      show (1 ≤ (s.rk.set t (r + 1)).getD i 0 ∧ (s.rk.set t (r + 1)).getD i 0 ≤ r) ∧ _
      rw [R, if_neg e]
      refine ⟨g1, ⟨k, hk, ?_, ?_⟩, fun m hm h1 => ?_⟩
      · show (s.lab.set t 1).getD k 0 = 1
        rw [L]; split
        · rfl
        · exact g2
      · show (s.rk.set t (r + 1)).getD k 0 = _
        rw [R, if_neg (fun e => by subst e; omega)]; exact g3
      · show _ ≤ (s.rk.set t (r + 1)).getD m 0
        rw [R]
        by_cases e2 : m = t
        · rw [if_pos e2]; omega
        · rw [if_neg e2]
          have h1 : (s.lab.set t 1).getD m 0 = 1 := h1
          rw [L, if_neg e2] at h1
          exact g4 m hm h1
    · intro i hi
      show (s.lab.set t 1).getD i 0 = 3 → (s.rk.set t (r + 1)).getD i 0 = 0
      rw [L, R]
      by_cases e : i = t
      · rw [if_pos e]; intro h; omega
      · rw [if_neg e, if_neg e]; exact h.und i hi
    · show (s.q ++ [t]).Pairwise fun a b => (s.rk.set t (r + 1)).getD a 0 ≤ (s.rk.set t (r + 1)).getD b 0
      rw [List.pairwise_append]
      refine ⟨h.srt.imp_of_mem fun {a b} hm hb hab => ?_, List.pairwise_singleton _ _, fun a hm b hb => ?_⟩
      · rw [R, R, if_neg (fun (e : a = t) => htq (e ▸ hm)), if_neg (fun (e : b = t) => htq (e ▸ hb))]; exact hab
      · rw [List.mem_singleton] at hb
        rw [hb, R, R, if_neg (fun (e : a = t) => htq (e ▸ hm)), if_pos rfl]
        obtain ⟨h1, h2⟩ := (h.qin a).1 hm
        exact (h.inn a h1 h2).1.2
    · show (s.rk.set t (r + 1)).getD j 0 = r
      rw [Rk j hj]; exact hr
    · intro k
      show (s.lab.set t 1).getD k 0 = 2 → _
      rw [L]; split
      · intro h; omega
      · exact id
    · intro k hk
      show (s.rk.set t (r + 1)).getD k 0 = _
      rw [R, if_neg (fun e => by subst e; omega)]
  · have e0 : cnt r s t = ⟨s.lab, s.rk, s.opn.set t (s.opn.getD t 0 - 1), s.q⟩ := by unfold cnt; rw [if_neg ho]
    rw [e0]
    refine ⟨⟨h.ll, h.rl, by show (s.opn.set t _).length = 40; rw [List.length_set]; exact h.ol, h.lo, hopn, hcl, h.qin, h.qnd, ?_, fun i hi h1 => ?_, h.out, h.und, h.srt⟩, hj, hr, fun _ h => h, fun _ h => h, ⟨[], (List.append_nil _).symm⟩, fun _ _ => rfl⟩
    · intro i hi
      show (s.opn.set t _).getD i 0 = 0 → _
      rw [set_getD _ _ _ _ (by omega)]
      by_cases e : i = t
      · subst e; rw [if_pos rfl]; intro h; exact absurd h ho
      · rw [if_neg e]; exact h.zero i hi
    · obtain ⟨g1, g2, g3⟩ := h.inn i hi h1
      exact ⟨g1, fun k hk => ⟨by rw [(g2 k hk).1]; rfl, (g2 k hk).2⟩, g3⟩

/-- The attacks of a node that has become Out are counted, one behind the other. -/
theorem inv_cnts {j : Nat} {r : Int} : ∀ (l : List Nat) {s : QS} {C : Nat → Nat → Bool} (_ : Inv N ps s C r) (_ : s.lab.getD j 0 = 2) (_ : s.rk.getD j 0 = r) (_ : l.Nodup) (_ : ∀ t ∈ l, At ps j t ∧ C j t = false),
    ∃ C', Inv N ps (l.foldl (cnt r) s) C' r ∧ (∀ k i, C k i = true → C' k i = true) ∧ (∀ t ∈ l, C' j t = true) ∧ (∀ k, s.lab.getD k 0 = 2 → (l.foldl (cnt r) s).lab.getD k 0 = 2) ∧ (∀ k, (l.foldl (cnt r) s).lab.getD k 0 = 2 → s.lab.getD k 0 = 2) ∧ (∃ l', (l.foldl (cnt r) s).q = s.q ++ l') ∧ (∀ k, s.lab.getD k 0 = 1 → (l.foldl (cnt r) s).rk.getD k 0 = s.rk.getD k 0)
  | [], s, C, h, hj, hr, _, _ => ⟨C, h, fun _ _ h => h, fun t h => (by cases h), fun _ h => h, fun _ h => h, ⟨[], (List.append_nil _).symm⟩, fun _ _ => rfl⟩
  | t :: l, s, C, h, hj, hr, hnl, hl => by
    obtain ⟨ht, hnl⟩ := List.nodup_cons.1 hnl
    obtain ⟨h1, h2, h3, h4, h5, ⟨l1, h6⟩, h7⟩ := inv_cnt hix hnd hN h (hl t (List.mem_cons_self ..)).1 hj hr (hl t (List.mem_cons_self ..)).2
    obtain ⟨C', i1, i2, i3, i4, i5, ⟨l2, i6⟩, i7⟩ := inv_cnts l h1 h2 h3 hnl (fun x hx => ⟨(hl x (List.mem_cons_of_mem _ hx)).1, by
      show (C j x || (j == j && x == t)) = false
      rw [(hl x (List.mem_cons_of_mem _ hx)).2, beq_eq_false_iff_ne.2 (fun (e : x = t) => ht (by rw [← e]; exact hx))]; simp⟩)
    rw [List.foldl_cons]
    refine ⟨C', i1, fun k i hk => i2 k i (by show (C k i || _) = true; rw [hk]; rfl), fun x hx => ?_, fun k hk => i4 k (h4 k hk), fun k hk => h5 k (i5 k hk), ⟨l1 ++ l2, by rw [i6, h6, List.append_assoc]⟩, fun k hk => ?_⟩
    · rcases List.mem_cons.1 hx with rfl | hx
      · exact i2 j x (by simp)
      · exact i3 x hx
    · have hk1 : (cnt r s t).lab.getD k 0 = 1 := by
        unfold cnt acc
        split
        · show (s.lab.set t 1).getD k 0 = 1
          rw [set_getD _ _ _ _ (by rw [h.ll]; exact (at_lt hix (hl t (List.mem_cons_self ..)).1).2)]
          split
          · rfl
          · exact hk
        · exact hk
      rw [i7 k hk1, h7 k hk]

/-- A node becomes Out. -/
theorem inv_rej {s : QS} {C : Nat → Nat → Bool} {r : Int} (h : Inv N ps s C r) (hf : Full N ps s C) {c j : Nat} (hc : At ps c j) (hc1 : s.lab.getD c 0 = 1) (hcr : s.rk.getD c 0 = r) (hj : s.lab.getD j 0 = 3)
    (hmin : ∀ k, At ps k j → s.lab.getD k 0 = 1 → r ≤ s.rk.getD k 0) :
    ∃ C', Inv N ps (rej ps s j r) C' r ∧ Full N ps (rej ps s j r) C' ∧ (rej ps s j r).lab.getD j 0 = 2 ∧ (∀ k, s.lab.getD k 0 = 2 → (rej ps s j r).lab.getD k 0 = 2) ∧ (∃ l', (rej ps s j r).q = s.q ++ l') ∧ (∀ k, s.lab.getD k 0 = 1 → (rej ps s j r).rk.getD k 0 = s.rk.getD k 0) := by
  obtain ⟨hcN, hjN⟩ := at_lt hix hc
  have L : ∀ i, (s.lab.set j 2).getD i 0 = if i = j then 2 else s.lab.getD i 0 := fun i => set_getD _ _ _ _ (by rw [h.ll]; exact hjN)
  have R : ∀ i, (s.rk.set j r).getD i 0 = if i = j then r else s.rk.getD i 0 := fun i => set_getD _ _ _ _ (by rw [h.rl]; exact hjN)
  have hCj : ∀ i, C j i = false := fun i => by
    cases hx : C j i
    · rfl
    · have := h.cl j i hx hjN; omega
  have Ne : ∀ k, s.lab.getD k 0 = 1 ∨ s.lab.getD k 0 = 2 → k ≠ j := fun k hk e => by subst e; omega
  have hr1 : 1 ≤ r := by have := (h.inn c hcN hc1).1; omega
  have h0 : Inv N ps ⟨s.lab.set j 2, s.rk.set j r, s.opn, s.q⟩ C r := by
    refine ⟨?_, ?_, h.ol, ?_, h.op, ?_, ?_, h.qnd, ?_, ?_, ?_, ?_, ?_⟩
    · show (s.lab.set j 2).length = N; rw [List.length_set]; exact h.ll
    · show (s.rk.set j r).length = N; rw [List.length_set]; exact h.rl
    · intro i hi
      show (s.lab.set j 2).getD i 0 = 1 ∨ (s.lab.set j 2).getD i 0 = 2 ∨ (s.lab.set j 2).getD i 0 = 3
      rw [L]; split
      · exact .inr (.inl rfl)
      · exact h.lo i hi
    · intro k i hk hkN
      show (s.lab.set j 2).getD k 0 = 2
      rw [L]; split
      · rfl
      · exact h.cl k i hk hkN
    · intro i
      show i ∈ s.q ↔ i < N ∧ (s.lab.set j 2).getD i 0 = 1
      rw [h.qin, L]
      by_cases e : i = j
      · rw [if_pos e, e]
        constructor
        · rintro ⟨_, hx⟩; omega
        · rintro ⟨_, hx⟩; omega
      · rw [if_neg e]
    · intro i hi h1
      have h2 := h.zero i hi h1
      show (s.lab.set j 2).getD i 0 = 1
      rw [L, if_neg (Ne i (.inl h2))]; exact h2
    · intro i hi h1
      have h1 : (s.lab.set j 2).getD i 0 = 1 := h1
      rw [L] at h1
      have e : i ≠ j := fun e => by rw [if_pos e] at h1; omega
      rw [if_neg e] at h1
      obtain ⟨g1, g2, g3⟩ := h.inn i hi h1
      show (1 ≤ (s.rk.set j r).getD i 0 ∧ (s.rk.set j r).getD i 0 ≤ r + 1) ∧ _
      rw [R, if_neg e]
      refine ⟨g1, fun k hk => ⟨(g2 k hk).1, ?_⟩, ?_⟩
      · show (s.rk.set j r).getD k 0 < _
        rw [R, if_neg (Ne k (.inr (h.cl k i (g2 k hk).1 (at_lt hix hk).1)))]; exact (g2 k hk).2
      · rcases g3 with g3 | ⟨k, hk, g3⟩
        · exact .inl g3
        · refine .inr ⟨k, hk, ?_⟩
          show (s.rk.set j r).getD k 0 = _
          rw [R, if_neg (Ne k (.inr (h.cl k i (g2 k hk).1 (at_lt hix hk).1)))]; exact g3
    · intro i hi h2
      have h2 : (s.lab.set j 2).getD i 0 = 2 := h2
      rw [L] at h2
      show (1 ≤ (s.rk.set j r).getD i 0 ∧ (s.rk.set j r).getD i 0 ≤ r) ∧ _
      have key : ∀ k, (s.lab.set j 2).getD k 0 = 1 → s.lab.getD k 0 = 1 ∧ (s.rk.set j r).getD k 0 = s.rk.getD k 0 := fun k hk => by
        rw [L] at hk
        have e : k ≠ j := fun e => by rw [if_pos e] at hk; omega
        rw [if_neg e] at hk
        exact ⟨hk, by rw [R, if_neg e]⟩
      have key2 : ∀ k, s.lab.getD k 0 = 1 → (s.lab.set j 2).getD k 0 = 1 ∧ (s.rk.set j r).getD k 0 = s.rk.getD k 0 := fun k hk => by
        rw [L, R, if_neg (Ne k (.inl hk)), if_neg (Ne k (.inl hk))]; exact ⟨hk, rfl⟩
      by_cases e : i = j
      · subst e
        rw [R, if_pos rfl]
        refine ⟨by omega, ⟨c, hc, (key2 c hc1).1, by show (s.rk.set i r).getD c 0 = _; rw [(key2 c hc1).2]; exact hcr⟩, fun k hk h1 => ?_⟩
        show r ≤ (s.rk.set i r).getD k 0
        rw [(key k h1).2]
        exact hmin k hk (key k h1).1
      · rw [if_neg e] at h2
        rw [R, if_neg e]
        obtain ⟨g1, ⟨k, hk, g2, g3⟩, g4⟩ := h.out i hi h2
        refine ⟨g1, ⟨k, hk, (key2 k g2).1, by show (s.rk.set j r).getD k 0 = _; rw [(key2 k g2).2]; exact g3⟩, fun m hm h1 => ?_⟩
        show _ ≤ (s.rk.set j r).getD m 0
        rw [(key m h1).2]
        exact g4 m hm (key m h1).1
    · intro i hi h3
      have h3 : (s.lab.set j 2).getD i 0 = 3 := h3
      rw [L] at h3
      have e : i ≠ j := fun e => by rw [if_pos e] at h3; omega
      rw [if_neg e] at h3
      show (s.rk.set j r).getD i 0 = 0
      rw [R, if_neg e]; exact h.und i hi h3
    · show s.q.Pairwise fun a b => (s.rk.set j r).getD a 0 ≤ (s.rk.set j r).getD b 0
      refine h.srt.imp_of_mem fun {a b} ha hb hab => ?_
      rw [R, R, if_neg (Ne a (.inl ((h.qin a).1 ha).2)), if_neg (Ne b (.inl ((h.qin b).1 hb).2))]; exact hab
  obtain ⟨C', i1, i2, i3, i4, i5, i6, i7⟩ := inv_cnts hix hnd hN (outs ps j) h0 (by show (s.lab.set j 2).getD j 0 = 2; rw [L, if_pos rfl]) (by show (s.rk.set j r).getD j 0 = r; rw [R, if_pos rfl]) (outs_nodup hix hnd j) (fun t ht => ⟨(mem_outs hix).1 ht, hCj t⟩)
  refine ⟨C', i1, fun k i hkN h2 hk => ?_, i4 j (by show (s.lab.set j 2).getD j 0 = 2; rw [L, if_pos rfl]), fun k hk => i4 k (by show (s.lab.set j 2).getD k 0 = 2; rw [L]; split; rfl; exact hk), i6, fun k hk => ?_⟩
  · by_cases e : k = j
    · subst e; exact i3 i ((mem_outs hix).2 hk)
    · have := i5 k h2
      have : (s.lab.set j 2).getD k 0 = 2 := this
      rw [L, if_neg e] at this
      exact i2 k i (hf k i hkN this hk)
  · have := i7 k (by show (s.lab.set j 2).getD k 0 = 1; rw [L, if_neg (Ne k (.inl hk))]; exact hk)
    unfold rej
    rw [this]
    show (s.rk.set j r).getD k 0 = _
    rw [R, if_neg (Ne k (.inl hk))]

/-- The nodes that a node of the queue attacks become Out, one behind the other. -/
theorem inv_hits {c : Nat} {r : Int} {m : Nat} : ∀ (l : List Nat) {s : QS} {C : Nat → Nat → Bool} (_ : Inv N ps s C r) (_ : Full N ps s C) (_ : s.lab.getD c 0 = 1) (_ : s.rk.getD c 0 = r) (_ : ∀ t ∈ l, At ps c t) (_ : Gone ps s m) (_ : s.q.getD m 0 = c) (_ : m < s.q.length),
    ∃ C', Inv N ps (l.foldl (hit ps c) s) C' r ∧ Full N ps (l.foldl (hit ps c) s) C' ∧ (∀ t ∈ l, (l.foldl (hit ps c) s).lab.getD t 0 = 2) ∧ (∀ k, s.lab.getD k 0 = 2 → (l.foldl (hit ps c) s).lab.getD k 0 = 2) ∧ (∃ l', (l.foldl (hit ps c) s).q = s.q ++ l') ∧ (l.foldl (hit ps c) s).rk.getD c 0 = s.rk.getD c 0
  | [], s, C, h, hf, h1, h2, hl, hg, hm, hml => ⟨C, h, hf, fun t h => (by cases h), fun _ h => h, ⟨[], (List.append_nil _).symm⟩, rfl⟩
  | t :: l, s, C, h, hf, h1, h2, hl, hg, hm, hml => by
    have hct := hl t (List.mem_cons_self ..)
    obtain ⟨hcN, htN⟩ := at_lt hix hct
    have step : ∃ C1, Inv N ps (hit ps c s t) C1 r ∧ Full N ps (hit ps c s t) C1 ∧ (hit ps c s t).lab.getD t 0 = 2 ∧ (∀ k, s.lab.getD k 0 = 2 → (hit ps c s t).lab.getD k 0 = 2) ∧ (∃ l', (hit ps c s t).q = s.q ++ l') ∧ (∀ k, s.lab.getD k 0 = 1 → (hit ps c s t).rk.getD k 0 = s.rk.getD k 0) := by
      unfold hit
      by_cases e : s.lab.getD t 0 = 3
      · rw [if_pos e, h2]
        refine inv_rej hix hnd hN h hf hct h1 h2 e fun k hk hk1 => ?_
        have hkq : k ∈ s.q := (h.qin k).2 ⟨(at_lt hix hk).1, hk1⟩
        obtain ⟨a, ha, hak⟩ := List.getElem_of_mem hkq
        have hak2 : s.q.getD a 0 = k := by rw [List.getD_eq_getElem?_getD, List.getElem?_eq_getElem ha]; exact hak
        have hma : ¬ a < m := fun hlt => by
          have := hg a hlt t (by rw [hak2]; exact hk)
          omega
        have hmc : s.q[m] = c := by rw [List.getD_eq_getElem?_getD, List.getElem?_eq_getElem hml] at hm; exact hm
        rw [← h2]
        by_cases e2 : a = m
        · subst e2; rw [← hak, hmc]; exact Int.le_refl _
        · have := (List.pairwise_iff_getElem.1 h.srt) m a hml ha (by omega)
          rw [hmc, hak] at this
          exact this
      · rw [if_neg e]
        refine ⟨C, h, hf, ?_, fun _ h => h, ⟨[], (List.append_nil _).symm⟩, fun _ _ => rfl⟩
        rcases h.lo t htN with f | f | f
        · have := ((h.inn t htN f).2.1 c hct).1
          have := h.cl c t this hcN
          omega
        · exact f
        · exact absurd f e
    obtain ⟨C1, j1, j2, j3, j4, ⟨l1, j5⟩, j6⟩ := step
    have hc1' : (hit ps c s t).lab.getD c 0 = 1 := by
      have : c ∈ (hit ps c s t).q := by rw [j5]; exact List.mem_append_left _ ((h.qin c).2 ⟨hcN, h1⟩)
      exact ((j1.qin c).1 this).2
    have hq1 : ∀ a, a < s.q.length → (hit ps c s t).q.getD a 0 = s.q.getD a 0 := fun a ha => by
      rw [List.getD_eq_getElem?_getD, List.getD_eq_getElem?_getD, j5, List.getElem?_append_left ha]
    obtain ⟨C', i1, i2, i3, i4, ⟨l2, i5⟩, i6⟩ := inv_hits l j1 j2 hc1' ((j6 c h1).trans h2) (fun x hx => hl x (List.mem_cons_of_mem _ hx)) (fun a ha x hx => j4 x (hg a ha x (by rw [← hq1 a (by omega)]; exact hx))) ((hq1 m hml).trans hm) (by rw [j5, List.length_append]; omega)
    rw [List.foldl_cons]
    refine ⟨C', i1, i2, fun x hx => ?_, fun k hk => i4 k (j4 k hk), ⟨l1 ++ l2, by rw [i5, j5, List.append_assoc]⟩, by rw [i6]; exact j6 c h1⟩
    rcases List.mem_cons.1 hx with rfl | hx
    · exact i4 x j3
    · exact i3 x hx

/-- Between two nodes of the queue. -/
structure Bnd (N : Nat) (ps : List (Int × Int)) (s : QS) (m : Nat) : Prop where
  inv : ∃ C r, Inv N ps s C r ∧ Full N ps s C ∧ 0 ≤ r ∧ r ≤ (m : Int) ∧ ∀ h : m < s.q.length, r ≤ s.rk.getD s.q[m] 0
  gone : Gone ps s m
omit hix hnd hN in
theorem Inv.up {s : QS} {C : Nat → Nat → Bool} {r r2 : Int} (h : Inv N ps s C r) (hr : r ≤ r2) : Inv N ps s C r2 :=
  ⟨h.ll, h.rl, h.ol, h.lo, h.op, h.cl, h.qin, h.qnd, h.zero, fun i hi h1 => ⟨⟨(h.inn i hi h1).1.1, by have := (h.inn i hi h1).1.2; omega⟩, (h.inn i hi h1).2⟩, fun i hi h1 => ⟨⟨(h.out i hi h1).1.1, by have := (h.out i hi h1).1.2; omega⟩, (h.out i hi h1).2⟩, h.und, h.srt⟩
theorem Bnd.step {s : QS} {m : Nat} (h : Bnd N ps s m) (hm : m < s.q.length) : Bnd N ps (rejA ps s s.q[m]) (m + 1) := by
  obtain ⟨⟨C, r, h1, h2, h0, h3, h4⟩, hg⟩ := h
  have h4 := h4 hm
  have hcq : s.q[m] ∈ s.q := List.getElem_mem hm
  have hm2 : s.q.getD m 0 = s.q[m] := by rw [List.getD_eq_getElem?_getD, List.getElem?_eq_getElem hm]; rfl
  generalize s.q[m] = c at *
  obtain ⟨hcN, hc1⟩ := (h1.qin c).1 hcq
  have hc2 := (h1.inn c hcN hc1).1
  obtain ⟨C', i1, i2, i3, i4, ⟨l, i5⟩, i6⟩ := inv_hits hix hnd hN (outs ps c) (h1.up h4) h2 hc1 rfl (fun t ht => (mem_outs hix).1 ht) hg hm2 hm
  refine ⟨⟨C', _, i1, i2, by omega, by omega, fun hl => ?_⟩, fun a ha t hat => ?_⟩
  · -- the ranks of the queue ascend
    have hl : m + 1 < ((outs ps c).foldl (hit ps c) s).q.length := hl
    have hl1 : m < ((outs ps c).foldl (hit ps c) s).q.length := by omega
    have this := (List.pairwise_iff_getElem.1 i1.srt) m (m + 1) hl1 hl (by omega)
    have e1 : ((outs ps c).foldl (hit ps c) s).q[m] = c := by
      have e : ((outs ps c).foldl (hit ps c) s).q[m]? = some c := by
        rw [i5, List.getElem?_append_left hm]
        rw [List.getD_eq_getElem?_getD, List.getElem?_eq_getElem hm] at hm2
        rw [List.getElem?_eq_getElem hm]
        exact congrArg some hm2
      rw [List.getElem?_eq_getElem hl1] at e
      exact Option.some.inj e
    rw [e1] at this
    rw [i6] at this
    exact this
  · by_cases e : a = m
    · subst e
      have : (rejA ps s c).q.getD a 0 = c := by
        unfold rejA
        rw [i5, List.getD_eq_getElem?_getD, List.getElem?_append_left hm, ← List.getD_eq_getElem?_getD]
        exact hm2
      rw [this] at hat
      exact i3 t ((mem_outs hix).2 hat)
    · refine i4 t (hg a (by omega) t ?_)
      unfold rejA at hat
      rw [i5, List.getD_eq_getElem?_getD, List.getElem?_append_left (by omega), ← List.getD_eq_getElem?_getD] at hat
      exact hat

omit hnd hN in
/-- At the end. -/
theorem Bnd.spec {s : QS} (h : Bnd N ps s s.q.length) : GSpec N ps s.lab s.rk := by
  obtain ⟨⟨C, r, h1, h2, h0, -, -⟩, hg⟩ := h
  have hin : ∀ k i, At ps k i → s.lab.getD k 0 = 1 → s.lab.getD i 0 = 2 := fun k i hk hk1 => by
    obtain ⟨a, ha, hak⟩ := List.getElem_of_mem ((h1.qin k).2 ⟨(at_lt hix hk).1, hk1⟩)
    exact hg a ha i (by rw [List.getD_eq_getElem?_getD, List.getElem?_eq_getElem ha]; show At ps s.q[a] i; rw [hak]; exact hk)
  refine ⟨h1.ll, h1.rl, h1.lo, fun i hi e => ?_, fun i hi e => ?_, fun i hi e => ⟨h1.und i hi e, ?_, fun k hk hk1 => ?_⟩⟩
  · obtain ⟨g1, g2, g3⟩ := h1.inn i hi e
    exact ⟨g1.1, fun k hk => ⟨h1.cl k i (g2 k hk).1 (at_lt hix hk).1, (g2 k hk).2⟩, g3⟩
  · obtain ⟨g1, g2, g3⟩ := h1.out i hi e
    exact ⟨g1.1, g2, g3⟩
  · have hne : ¬ s.opn.getD i 0 = 0 := fun e2 => by have := h1.zero i hi e2; omega
    rw [h1.op i hi] at hne
    have hpos : 0 < (ins ps i).countP fun k => !C k i := by omega
    obtain ⟨k, hk, hC⟩ := List.countP_pos_iff.1 hpos
    have hat := (mem_ins hix).1 hk
    have hkN := (at_lt hix hat).1
    refine ⟨k, hat, ?_⟩
    rcases h1.lo k hkN with f | f | f
    · have := hin k i hat f; omega
    · rw [h2 k i hkN f hat] at hC; cases hC
    · exact f
  · have := hin k i hk hk1; omega
omit hix hnd hN in
theorem nodup_lt_len : ∀ (n : Nat) (l : List Nat), l.Nodup → (∀ x ∈ l, x < n) → l.length ≤ n
  | 0, l, _, h => by
    cases l with
    | nil => exact Nat.le_refl _
    | cons a r => exact absurd (h a (List.mem_cons_self ..)) (Nat.not_lt_zero _)
  | n + 1, l, hn, h => by
    by_cases e : n ∈ l
    · have h1 := nodup_lt_len n (l.erase n) (hn.erase n) (fun x hx => by
        have h2 := h x (List.mem_of_mem_erase hx)
        have h3 : x ≠ n := fun e2 => by subst e2; exact (List.Nodup.mem_erase_iff hn).1 hx |>.1 rfl
        omega)
      rw [List.length_erase_of_mem e] at h1
      omega
    · exact Nat.le_succ_of_le (nodup_lt_len n l hn fun x hx => by
        have h2 := h x hx
        have h3 : x ≠ n := fun e2 => e (e2 ▸ hx)
        omega)
omit hix hnd hN in
theorem Bnd.qlen {s : QS} {m : Nat} (h : Bnd N ps s m) : s.q.length ≤ N ∧ ∀ x ∈ s.q, x < N := by
  obtain ⟨⟨C, r, h1, -⟩, -⟩ := h
  exact ⟨nodup_lt_len N _ h1.qnd fun x hx => ((h1.qin x).1 hx).1, fun x hx => ((h1.qin x).1 hx).1⟩
end

/-- The state behind the first k nodes of the loop ahead of the rounds. -/
def opn0 (ps : List (Int × Int)) : List Int := (List.range 40).map fun i => ((ins ps i).length : Int)
def zer (ps : List (Int × Int)) (i : Nat) : Bool := decide ((ins ps i).length = 0)
def initS (N : Nat) (ps : List (Int × Int)) (k : Nat) : QS := ⟨(List.range N).map fun i => if (decide (i < k) && zer ps i) = true then 1 else 3, (List.range N).map fun i => if (decide (i < k) && zer ps i) = true then 1 else 0, opn0 ps, (List.range k).filter (zer ps)⟩
theorem getD_map (N : Nat) (f : Nat → Int) (i : Nat) (hi : i < N) : ((List.range N).map f).getD i 0 = f i := by
  rw [List.getD_eq_getElem?_getD, List.getElem?_map, List.getElem?_range hi]; rfl
theorem initS_none (N : Nat) (ps : List (Int × Int)) : initS N ps 0 = ⟨List.replicate N 3, List.replicate N 0, opn0 ps, []⟩ := by
  unfold initS
  congr 1
  · rw [List.eq_replicate_iff]; simp
  · rw [List.eq_replicate_iff]; simp
theorem initS_step {N : Nat} (ps : List (Int × Int)) {k : Nat} (hk : k < N) (hN : N ≤ 40) : initS N ps (k + 1) = if (initS N ps k).opn.getD k 0 = 0 then acc (initS N ps k) k 1 else initS N ps k := by
  have ho : (initS N ps k).opn.getD k 0 = ((ins ps k).length : Int) := getD_map 40 (fun i => ((ins ps i).length : Int)) k (by omega)
  rw [ho]
  by_cases hz : (ins ps k).length = 0
  · rw [if_pos (by omega)]
    have hzb : zer ps k = true := decide_eq_true hz
    unfold initS acc
    congr 1
    · apply List.ext_getElem (by simp)
      intro i h1 h2
      have hi : i < N := by simpa using h1
      simp only [List.getElem_map, List.getElem_range, List.getElem_set]
      by_cases e : k = i
      · subst e; simp [hzb]
      · rw [if_neg e]
        have : decide (i < k + 1) = decide (i < k) := decide_eq_decide.2 (by omega)
        rw [this]
    · apply List.ext_getElem (by simp)
      intro i h1 h2
      have hi : i < N := by simpa using h1
      simp only [List.getElem_map, List.getElem_range, List.getElem_set]
      by_cases e : k = i
      · subst e; simp [hzb]
      · rw [if_neg e]
        have : decide (i < k + 1) = decide (i < k) := decide_eq_decide.2 (by omega)
        rw [this]
    · rw [List.range_succ, List.filter_append]
      simp [hzb]
  · rw [if_neg (by omega)]
    have hzb : zer ps k = false := decide_eq_false hz
    have he : ∀ i, (decide (i < k + 1) && zer ps i) = (decide (i < k) && zer ps i) := fun i => by
      by_cases e : i = k
      · subst e; simp [hzb]
      · have : decide (i < k + 1) = decide (i < k) := decide_eq_decide.2 (by omega)
        rw [this]
    unfold initS
    congr 1
    · simp only [he]
    · simp only [he]
    · rw [List.range_succ, List.filter_append]
      simp [hzb]
theorem initS_bnd {N : Nat} {ps : List (Int × Int)} (hix : ∀ p ∈ ps, (0 ≤ p.1 ∧ p.1 < (N : Int)) ∧ (0 ≤ p.2 ∧ p.2 < (N : Int))) (hN : N ≤ 40) : Bnd N ps (initS N ps N) 0 := by
  have L : ∀ i, i < N → (initS N ps N).lab.getD i 0 = if zer ps i = true then 1 else 3 := fun i hi => by
    have := getD_map N (fun i => if (decide (i < N) && zer ps i) = true then 1 else 3) i hi
    rw [decide_eq_true hi] at this
    exact this
  have R : ∀ i, i < N → (initS N ps N).rk.getD i 0 = if zer ps i = true then 1 else 0 := fun i hi => by
    have := getD_map N (fun i => if (decide (i < N) && zer ps i) = true then 1 else 0) i hi
    rw [decide_eq_true hi] at this
    exact this
  have O : ∀ i, i < N → (initS N ps N).opn.getD i 0 = ((ins ps i).length : Int) := fun i hi => getD_map 40 (fun i => ((ins ps i).length : Int)) i (by omega)
  have ZN : ∀ i, zer ps i = true → ∀ k, ¬ At ps k i := fun i hz k hk => by
    have := (mem_ins hix).2 hk
    rw [List.eq_nil_of_length_eq_zero (of_decide_eq_true hz)] at this
    cases this
  have H1 : ∀ i, i < N → (initS N ps N).lab.getD i 0 = 1 → zer ps i = true := fun i hi h => by
    rw [L i hi] at h
    cases hz : zer ps i
    · rw [hz] at h; exact absurd h (by decide)
    · rfl
  have Q : ∀ i, i ∈ (initS N ps N).q ↔ i < N ∧ zer ps i = true := fun i => by
    show i ∈ (List.range N).filter (zer ps) ↔ _
    rw [List.mem_filter, List.mem_range]
  refine ⟨⟨fun _ _ => false, 0, ⟨?_, ?_, ?_, ?_, ?_, ?_, ?_, ?_, ?_, ?_, ?_, ?_, ?_⟩, ?_, Int.le_refl _, Int.le_refl _, ?_⟩, fun a ha => absurd ha (Nat.not_lt_zero a)⟩
  · simp [initS]
  · simp [initS]
  · simp [initS, opn0]
  · intro i hi
    rw [L i hi]; split
    · exact .inl rfl
    · exact .inr (.inr rfl)
  · intro i hi
    rw [O i hi]
    simp
  · intro k i h; cases h
  · intro i
    rw [Q i]
    constructor
    · rintro ⟨h1, h2⟩; exact ⟨h1, by rw [L i h1, if_pos h2]⟩
    · rintro ⟨h1, h2⟩; exact ⟨h1, H1 i h1 h2⟩
  · exact (List.nodup_iff_pairwise_ne.2 ((List.nodup_iff_pairwise_ne.1 List.nodup_range).filter _))
  · intro i hi h
    rw [O i hi] at h
    have : zer ps i = true := decide_eq_true (by omega)
    rw [L i hi, if_pos this]
  · intro i hi h
    have hz := H1 i hi h
    rw [R i hi, if_pos hz]
    exact ⟨by omega, fun k hk => absurd hk (ZN i hz k), .inl rfl⟩
  · intro i hi h
    rw [L i hi] at h
    split at h <;> omega
  · intro i hi h
    rw [L i hi] at h
    rw [R i hi]
    split
    · rename_i hz; rw [if_pos hz] at h; omega
    · rfl
  · refine List.pairwise_of_forall_mem_list fun a ha b hb => ?_
    rw [R a ((Q a).1 ha).1, R b ((Q b).1 hb).1, if_pos ((Q a).1 ha).2, if_pos ((Q b).1 hb).2]
    exact Int.le_refl _
  · intro k i hk h2 hat
    rw [L k hk] at h2
    split at h2 <;> omega
  · intro h
    have := (Q _).1 (List.getElem_mem h)
    rw [R _ this.1, if_pos this.2]; omega

/-- Rough bounds. -/
structure BB (N : Nat) (s : QS) (M : Int) : Prop where
  ll : s.lab.length = N
  rl : s.rk.length = N
  ol : s.opn.length = 40
  ob : ∀ i, i < N → -M ≤ s.opn.getD i 0 ∧ s.opn.getD i 0 ≤ M
  rb : ∀ i, i < N → -M ≤ s.rk.getD i 0 ∧ s.rk.getD i 0 ≤ M
  qb : (s.q.length : Int) ≤ M
theorem BB.mono {N : Nat} {s : QS} {M M2 : Int} (h : BB N s M) (hm : M ≤ M2) : BB N s M2 := ⟨h.ll, h.rl, h.ol, fun i hi => by have := h.ob i hi; omega, fun i hi => by have := h.rb i hi; omega, by have := h.qb; omega⟩
theorem bb_acc {N : Nat} {s : QS} {M : Int} (h : BB N s M) {i : Nat} (hi : i < N) {r : Int} (h1 : -M ≤ r) (h2 : r ≤ M + 1) : BB N (acc s i r) (M + 1) := by
  refine ⟨by show (s.lab.set i 1).length = N; rw [List.length_set]; exact h.ll, by show (s.rk.set i r).length = N; rw [List.length_set]; exact h.rl, h.ol, fun j hj => by have := h.ob j hj; show -(M + 1) ≤ s.opn.getD j 0 ∧ _; exact ⟨by omega, by show s.opn.getD j 0 ≤ _; omega⟩, fun j hj => ?_, ?_⟩
  · show -(M + 1) ≤ (s.rk.set i r).getD j 0 ∧ (s.rk.set i r).getD j 0 ≤ M + 1
    rw [set_getD _ _ _ _ (by rw [h.rl]; exact hi)]
    have := h.rb j hj
    split <;> omega
  · show ((s.q ++ [i]).length : Int) ≤ M + 1
    have := h.qb
    rw [List.length_append, List.length_singleton]; omega
theorem bb_opn {N : Nat} {s : QS} {M : Int} (h : BB N s M) (hN : N ≤ 40) {t : Nat} (ht : t < N) : BB N ⟨s.lab, s.rk, s.opn.set t (s.opn.getD t 0 - 1), s.q⟩ (M + 1) := by
  refine ⟨h.ll, h.rl, by show (s.opn.set t _).length = 40; rw [List.length_set]; exact h.ol, fun j hj => ?_, fun j hj => by have := h.rb j hj; show -(M + 1) ≤ s.rk.getD j 0 ∧ _; exact ⟨by omega, by show s.rk.getD j 0 ≤ _; omega⟩, by have := h.qb; show (s.q.length : Int) ≤ _; omega⟩
  show -(M + 1) ≤ (s.opn.set t _).getD j 0 ∧ (s.opn.set t _).getD j 0 ≤ M + 1
  have h1 := h.ob j hj
  have h2 := h.ob t ht
  rw [set_getD _ _ _ _ (by rw [h.ol]; omega)]
  split <;> omega
theorem bb_cnt {N : Nat} {s : QS} {M : Int} (h : BB N s M) (hN : N ≤ 40) {t : Nat} (ht : t < N) {r : Int} (h1 : -M ≤ r) (h2 : r ≤ M) : BB N (cnt r s t) (M + 2) := by
  have h3 := bb_opn h hN ht
  unfold cnt
  split
  · exact (bb_acc h3 ht (by omega) (by omega)).mono (by omega)
  · exact h3.mono (by omega)
theorem bb_cnts {N : Nat} (hN : N ≤ 40) {r : Int} : ∀ (l : List Nat) {s : QS} {M : Int} (_ : BB N s M) (_ : ∀ t ∈ l, t < N) (_ : -M ≤ r) (_ : r ≤ M), BB N (l.foldl (cnt r) s) (M + 2 * l.length)
  | [], s, M, h, _, _, _ => by simpa using h
  | t :: l, s, M, h, hl, h1, h2 => by
    have := bb_cnts (r := r) hN l (bb_cnt h hN (hl t (List.mem_cons_self ..)) h1 h2) (fun x hx => hl x (List.mem_cons_of_mem _ hx)) (by omega) (by omega)
    rw [List.foldl_cons]
    refine BB.mono this ?_
    rw [List.length_cons]; omega
theorem bb_out {N : Nat} {s : QS} {M : Int} (h : BB N s M) {j : Nat} (hj : j < N) {r : Int} (h1 : -M ≤ r) (h2 : r ≤ M) : BB N ⟨s.lab.set j 2, s.rk.set j r, s.opn, s.q⟩ M := by
  refine ⟨by show (s.lab.set j 2).length = N; rw [List.length_set]; exact h.ll, by show (s.rk.set j r).length = N; rw [List.length_set]; exact h.rl, h.ol, h.ob, fun i hi => ?_, h.qb⟩
  show -M ≤ (s.rk.set j r).getD i 0 ∧ (s.rk.set j r).getD i 0 ≤ M
  rw [set_getD _ _ _ _ (by rw [h.rl]; exact hj)]
  have := h.rb i hi
  split <;> omega
theorem Inv.bb {N : Nat} {ps : List (Int × Int)} {s : QS} {C : Nat → Nat → Bool} {r : Int} (h : Inv N ps s C r) {M : Int} (hM : (ps.length : Int) ≤ M) (hr : r + 1 ≤ M) (hNM : (N : Int) ≤ M) : BB N s M := by
  refine ⟨h.ll, h.rl, h.ol, fun i hi => ?_, fun i hi => ?_, ?_⟩
  · rw [h.op i hi]
    have h1 : (ins ps i).countP (fun k => !C k i) ≤ (ins ps i).length := List.countP_le_length
    have h2 : (ins ps i).length ≤ ps.length := by unfold ins; rw [List.length_map]; exact List.length_filter_le _ _
    omega
  · rcases h.lo i hi with e | e | e
    · have := (h.inn i hi e).1; omega
    · have := (h.out i hi e).1; omega
    · have := h.und i hi e; omega
  · have := nodup_lt_len N _ h.qnd fun x hx => ((h.qin x).1 hx).1
    omega
end Go.Proofs.YtfiaoibfejginaaDoor

namespace Go.Proofs.YtfiaoibfejginaaDoor
set_option linter.unusedVariables false
set_option linter.unusedSimpArgs false
open Go Go.RowKit Go.Sort

theorem uAttBy1_any (g s t : Int) (w : World) : Calls Tryd.prog 94 #[.agg #[.int .i64 g, .int .i64 s], .int .i64 t] w fun e w' => e = .returned (.int .i64 (Lib.compareInt g t)) ∧ Below w.heap.size w w' := by
  have HX := hidIt (heap_alloc_new w (.cells #[.int .i64 g, .int .i64 s] 45))
  have HB := hidIt (bgrow w (.cells #[.int .i64 g, .int .i64 s] 45))
  go_enter Tryd.func94, Tryd.ntmps94
  go_upto_region 1 with (fail)
  generalize (w.alloc (.cells #[.int .i64 g, .int .i64 s] 45)) = w1 at *
  obtain ⟨x0, x1⟩ := And.intro (cell_two0 HX.out) (cell_two1 HX.out)
  have lx := lt_of_block HX.out
  go_wp2_with fail
  refine (Tryd.cmp_Compare_int g t _).mono ?_
  rintro e w2 ⟨rfl, rfl⟩
  go_wp2_with fail
  go_ret
  exact ⟨rfl, HB.out⟩

/-- i is the place of the first pair whose first number is not below t. -/
def Srch (ps : List (Int × Int)) (t : Int) (i : Nat) : Prop := i ≤ ps.length ∧ ∀ a (ha : a < ps.length), a < i ↔ ps[a].1 < t
def SrchOut (ps : List (Int × Int)) (t : Int) (w : World) (e : Ending) (w' : World) : Prop := ∃ (i : Nat) (f : Bool), e = .returned (.tuple #[.int .i64 (i : Int), .bool f]) ∧ Srch ps t i ∧ Below w.heap.size w w'
set_option maxRecDepth 100000 in
set_option maxHeartbeats 2000000 in
/-- The place of the first pair whose first number is not below t. -/
theorem bsearch_any (v : Value) (ps : List (Int × Int)) (t : Int) (w : World) (h : PairsAt w v ps) (hl : ps.length ≤ 1000000) (hm : ∀ a b, a ≤ b → (hb : b < ps.length) → (hb2 : a < ps.length) → ps[a].1 ≤ ps[b].1) :
    Calls Tryd.prog 95 #[v, .int .i64 t, .func (.func 94) #[] #[]] w (SrchOut ps t w) := by
  obtain ⟨a, c, rfl, hpc⟩ := h.pc
  have HPC := hidIt hpc
  have HMO := hidIt hm
  obtain ⟨M, hM⟩ : ∃ M, M = ps.length := ⟨_, rfl⟩
  have HM := hidIt hM
  rw [← hM] at hl ⊢
  clear h hpc hm hM
  go_enter Tryd.func95, Tryd.ntmps95
  go_wp2_with fail
  go_loopw [9, 10, 11] (fun v9 v10 _ wr => ∃ lo hi : Nat, v9 = .int .i64 lo ∧ v10 = .int .i64 hi ∧ lo ≤ hi ∧ hi ≤ M ∧ Hid (∀ a (ha : a < ps.length), a < lo → ps[a].1 < t) ∧ Hid (∀ a (ha : a < ps.length), hi ≤ a → t ≤ ps[a].1) ∧ Hid (Below w.heap.size w wr)) (fun v9 v10 _ _ => (intOf v10).toNat - (intOf v9).toNat)
  case atStart => exact ⟨0, M, (by first | rfl | trivial), (by first | rfl | trivial), Nat.zero_le _, Nat.le_refl _, (fun a ha h => absurd h (Nat.not_lt_zero _)), (fun a ha h => absurd ha (by have := HM.out; omega)), Below.refl _ _⟩
  case round =>
    obtain ⟨lo, hi, rfl, rfl, hlh, hhM, HLO, HHI, HB⟩ := hrel
    by_cases hlt : lo < hi
    · have hkI : (lo : Int) < (hi : Int) := by omega
      obtain ⟨q, hq⟩ : ∃ q, q = (lo + hi) / 2 := ⟨_, rfl⟩
      have HQ := hidIt hq
      have h1x : q < ps.length := by have := HM.out; omega
      have HE := hidIt (fun (h : ps[q].1 < t) a (ha : a < ps.length) (h2 : a < q + 1) => (by have := HMO.out a q (by omega) h1x ha; omega : ps[a].1 < t))
      have HF := hidIt (fun (h : t ≤ ps[q].1) a (ha : a < ps.length) (h2 : q ≤ a) => (by have := HMO.out q a h2 ha h1x; omega : t ≤ ps[a].1))
      obtain ⟨b1, o1, rfl, l1, hc1⟩ := (HPC.out.go HB.out).at_ h1x
      obtain ⟨p0, p1⟩ := hc1 q h1x
      generalize ps[q].1 = z at *
      generalize ps[q].2 = y at *
      rw [hq] at p0 p1
      clear hc1 h1x hq
      have hqn : ((lo : Int) + (hi : Int)) / 2 = (q : Int) := by have := HQ.out; omega
      have HQN := hidIt hqn
      have hql : lo ≤ q ∧ q < hi := by have := HQ.out; omega
      have HQL := hidIt hql
      clear hqn hql
      by_cases hz : z < t
      · have HV : Hid (Lib.compareInt z t = -1) := by show _ = _; rw [cmpI_val, if_pos hz]
        have HN := hidIt (HE.out hz)
        clear hz HE HF
        go_wp2_with fail
        refine (uAttBy1_any z y t _).mono ?_
        rw [HV.out]
        rintro e w2 ⟨rfl, hb2⟩
        have HB2 := hidIt (HB.out.trans (Below.mono hb2 HB.out.size))
        clear hb2
        go_wp2_with fail
        go_roundw
        case rel => exact ⟨q + 1, hi, by rw [HQN.out]; go_num, (by first | rfl | trivial), by have := HQL.out; omega, hhM, HN.out, HHI.out, HB2.out⟩
        case measure => have := HQL.out; have := HQN.out; simp [intOf]; omega
      · obtain ⟨r, hr, hr0⟩ : ∃ r, Lib.compareInt z t = r ∧ ¬ r < 0 := by
          rw [cmpI_val, if_neg hz]
          split
          · exact ⟨1, rfl, by decide⟩
          · exact ⟨0, rfl, by decide⟩
        have HV := hidIt hr
        have HN := hidIt (HF.out (Int.not_lt.1 hz))
        clear hz HE HF hr
        go_wp2_with fail
        refine (uAttBy1_any z y t _).mono ?_
        rw [HV.out]
        rintro e w2 ⟨rfl, hb2⟩
        have HB2 := hidIt (HB.out.trans (Below.mono hb2 HB.out.size))
        clear hb2
        go_wp2_with fail
        go_roundw
        case rel => exact ⟨lo, q, (by first | rfl | trivial), by rw [HQN.out], HQL.out.1, by have := HQL.out; omega, HLO.out, HN.out, HB2.out⟩
        case measure => have := HQL.out; have := HQN.out; simp [intOf]; omega
    · obtain rfl : lo = hi := by omega
      have hkI : ¬ (lo : Int) < (lo : Int) := by omega
      have HS : Hid (Srch ps t lo) := ⟨by have := HM.out; omega, fun a ha => ⟨HLO.out a ha, fun h => Classical.byContradiction fun h2 => by have := HHI.out a ha (by omega); omega⟩⟩
      by_cases hM : lo < M
      · have hMI : (lo : Int) < (M : Int) := by omega
        have h1x : lo < ps.length := by have := HM.out; omega
        obtain ⟨b1, o1, rfl, l1, hc1⟩ := (HPC.out.go HB.out).at_ h1x
        obtain ⟨p0, p1⟩ := hc1 lo h1x
        generalize ps[lo].1 = z at *
        generalize ps[lo].2 = y at *
        clear hc1 h1x HLO HHI
        have HU := hidIt (uAttBy1_any z y t wr)
        generalize Lib.compareInt z t = r at *
        clear hlt hkI hM
        have hkI : ¬ (lo : Int) < (lo : Int) := by omega
        go_wp2_with fail
        refine HU.out.mono ?_
        rintro e w2 ⟨rfl, hb2⟩
        have HB2 := hidIt (HB.out.trans (Below.mono hb2 HB.out.size))
        clear hb2
        go_wp2_with fail
        go_ret2
        exact ⟨lo, _, rfl, HS.out, HB2.out⟩
      · have hMI : ¬ (lo : Int) < (M : Int) := by omega
        clear HLO HHI
        go_wp2_with fail
        go_ret2
        exact ⟨lo, _, rfl, HS.out, HB.out⟩

theorem srch_take {ps : List (Int × Int)} {t : Int} {i : Nat} (h : Srch ps t i) (hm : ∀ a b, a ≤ b → (hb : b < ps.length) → (hb2 : a < ps.length) → ps[a].1 ≤ ps[b].1) {j : Nat} (h2 : Srch ps (t + 1) j) :
    i ≤ j ∧ j ≤ ps.length ∧ (ps.drop i).take (j - i) = ps.filter fun p => p.1 == t := by
  have hij : i ≤ j := by
    refine Nat.le_of_not_lt fun hlt => ?_
    have h3 := (h.2 j (by have := h.1; omega)).1 hlt
    have h4 := (h2.2 j (by have := h.1; omega)).2 (by omega)
    omega
  refine ⟨hij, h2.1, ?_⟩
  have e1 : ps = ps.take i ++ ((ps.drop i).take (j - i) ++ (ps.drop i).drop (j - i)) := by rw [List.take_append_drop, List.take_append_drop]
  have f1 : (ps.take i).filter (fun p => p.1 == t) = [] := by
    rw [List.filter_eq_nil_iff]
    intro p hp
    obtain ⟨k, hk, rfl⟩ := List.getElem_of_mem hp
    rw [List.length_take] at hk
    rw [List.getElem_take]
    have := (h.2 k (by omega)).1 (by omega)
    simp; omega
  have f3 : ((ps.drop i).drop (j - i)).filter (fun p => p.1 == t) = [] := by
    rw [List.filter_eq_nil_iff]
    intro p hp
    obtain ⟨k, hk, rfl⟩ := List.getElem_of_mem hp
    rw [List.length_drop, List.length_drop] at hk
    rw [List.getElem_drop, List.getElem_drop]
    have h3 : ¬ (ps[i + (j - i + k)]'(by omega)).1 < t + 1 := fun h => by have := (h2.2 (i + (j - i + k)) (by omega)).2 h; omega
    simp; omega
  have f2 : ((ps.drop i).take (j - i)).filter (fun p => p.1 == t) = (ps.drop i).take (j - i) := by
    rw [List.filter_eq_self]
    intro p hp
    obtain ⟨k, hk, rfl⟩ := List.getElem_of_mem hp
    rw [List.length_take, List.length_drop] at hk
    rw [List.getElem_take, List.getElem_drop]
    have h3 := (h2.2 (i + k) (by omega)).1 (by omega)
    have h4 : ¬ (ps[i + k]'(by omega)).1 < t := fun h5 => by have := (h.2 (i + k) (by omega)).2 h5; omega
    simp; omega
  have : ps.filter (fun p => p.1 == t) = (ps.take i).filter (fun p => p.1 == t) ++ (((ps.drop i).take (j - i)).filter (fun p => p.1 == t) ++ ((ps.drop i).drop (j - i)).filter (fun p => p.1 == t)) := by
    rw [← List.filter_append, ← List.filter_append, ← e1]
  rw [this, f1, f2, f3]
  simp
theorem GOk.mono {n : Int} {ps : List (Int × Int)} (h : GOk n ps) : ∀ a b, a ≤ b → (hb : b < ps.length) → (hb2 : a < ps.length) → ps[a].1 ≤ ps[b].1 := fun a b hab hb hb2 => by
  by_cases e : a = b
  · subst e; exact Int.le_refl _
  · have := (List.pairwise_iff_getElem.1 h.up) a b hb2 hb (by omega)
    unfold geP at this
    rw [decide_eq_false_iff_not] at this
    omega
/-- The pairs of a node's attacks. -/
def outP (ps : List (Int × Int)) (j : Nat) : List (Int × Int) := ps.filter fun p => p.1 == (j : Int)
theorem outP_outs (ps : List (Int × Int)) (j : Nat) : (outP ps j).map (fun p => p.2.toNat) = outs ps j := rfl
/-- The answer is the row of a node's attacks, as a part of the graph's row. -/
def AttOut (ps : List (Int × Int)) (j : Nat) (a0 : Option Addr) (w : World) (e : Ending) (w' : World) : Prop := ∃ (a : Option Addr) (c i m : Nat), e = .returned (.slice a (outP ps j).length c) ∧ outP ps j = (ps.drop i).take m ∧ (outP ps j = [] ∨ a = a0.map fun x => x.add (i * 2)) ∧ Below w.heap.size w w'
/-- The cells of a row of pairs in a block below B. -/
def PCB (B : Nat) (w : World) (a : Option Addr) (xs : List (Int × Int)) : Prop := xs = [] ∨ ∃ b off, a = some ⟨b, off, none⟩ ∧ b < B ∧
  ∀ i (h : i < xs.length), w.cell? ⟨b, off + i * 2, none⟩ = some (.int .i64 xs[i].1) ∧ w.cell? ⟨b, off + i * 2 + 1, none⟩ = some (.int .i64 xs[i].2)
theorem PCB.go {B n : Nat} {w w' : World} {a : Option Addr} {xs : List (Int × Int)} (h : PCB B w a xs) (hb : Below n w w') (hB : B ≤ n) (hn : n ≤ w.heap.size) : PCB B w' a xs := by
  rcases h with h | ⟨b, off, h1, h2, h3⟩
  · exact .inl h
  · have hblk := hb.block b (by omega)
    exact .inr ⟨b, off, h1, h2, fun i hi => ⟨(World.cell?_of_block (w := w) (w' := w') (a := ⟨b, off + i * 2, none⟩) hblk).trans (h3 i hi).1, (World.cell?_of_block (w := w) (w' := w') (a := ⟨b, off + i * 2 + 1, none⟩) hblk).trans (h3 i hi).2⟩⟩
theorem PCB.pc {B : Nat} {w : World} {a : Option Addr} {xs : List (Int × Int)} (h : PCB B w a xs) (hB : B ≤ w.heap.size) : PC w a xs := by
  rcases h with h | ⟨b, off, h1, h2, h3⟩
  · exact .inl h
  · exact .inr ⟨b, off, h1, Nat.lt_of_lt_of_le h2 hB, h3⟩
theorem PC.pcb {B : Nat} {w : World} {a : Option Addr} {xs : List (Int × Int)} (h : PC w a xs) (hB : w.heap.size ≤ B) : PCB B w a xs := by
  rcases h with h | ⟨b, off, h1, h2, h3⟩
  · exact .inl h
  · exact .inr ⟨b, off, h1, Nat.lt_of_lt_of_le h2 hB, h3⟩
theorem PCB.at_ {B : Nat} {w : World} {a : Option Addr} {xs : List (Int × Int)} (h : PCB B w a xs) {k : Nat} (hk : k < xs.length) : ∃ b off, a = some ⟨b, off, none⟩ ∧ b < B ∧
    ∀ i (h : i < xs.length), w.cell? ⟨b, off + i * 2, none⟩ = some (.int .i64 xs[i].1) ∧ w.cell? ⟨b, off + i * 2 + 1, none⟩ = some (.int .i64 xs[i].2) := by
  rcases h with h | h
  · rw [h] at hk; exact absurd hk (Nat.not_lt_zero _)
  · exact h
theorem PCB.sub {B : Nat} {w : World} {a : Option Addr} {ps : List (Int × Int)} (h : PCB B w a ps) (i m : Nat) : PCB B w (a.map fun x => x.add (i * 2)) ((ps.drop i).take m) := by
  by_cases e : (ps.drop i).take m = []
  · exact .inl e
  have hl : 0 < ((ps.drop i).take m).length := List.length_pos_iff.2 e
  rw [List.length_take, List.length_drop] at hl
  obtain ⟨b, off, rfl, h2, h3⟩ := h.at_ (k := 0) (by omega)
  refine .inr ⟨b, off + i * 2, by first | rfl | (simp [Addr.add]; done) | (simp; done), h2, fun k hk => ?_⟩
  have hk2 := hk
  rw [List.length_take, List.length_drop] at hk2
  have := h3 (i + k) (by omega)
  rw [List.getElem_take, List.getElem_drop, Nat.add_assoc, ← Nat.add_mul]
  exact this
theorem PairsAt.cap {w : World} {a : Option Addr} {c : Nat} {ps : List (Int × Int)} (H3 : PairsAt w (.slice a ps.length c) ps) : ps.length ≤ c ∧ c ≤ maxLen := by
  refine ⟨?_, ?_⟩
  · rcases H3 with ⟨h1, h2⟩ | ⟨b, off, cap, h1, h2, h3, -⟩
    · rw [h2]; exact Nat.zero_le _
    · injection h1 with _ _ h4; omega
  · rcases H3 with ⟨h1, h2⟩ | ⟨b, off, cap, h1, h2, h3, -⟩
    · injection h1 with _ _ h4; subst h4; unfold maxLen; omega
    · injection h1 with _ _ h4; omega

set_option maxRecDepth 100000 in
set_option maxHeartbeats 2000000 in
/-- The attacks of a node. -/
theorem attacksBy_any (N j : Nat) (a : Option Addr) (c : Nat) (ps : List (Int × Int)) (w : World) (h : PairsAt w (.slice a ps.length c) ps) (hok : GOk (N : Int) ps) (hl : ps.length ≤ 1000000) (hj : j < N) :
    Calls Tryd.prog 75 #[.agg #[.int .i64 (N : Int), .slice a ps.length c], .int .i64 (j : Int)] w (AttOut ps j a w) := by
  have hgr := bgrow w (.cells #[.int .i64 (N : Int), .slice a ps.length c] 24)
  have H1 := hidIt (h.below hgr)
  have HB := hidIt hgr
  obtain ⟨hc1, hc2⟩ := h.cap
  have HX := hidIt (heap_alloc_new w (.cells #[.int .i64 (N : Int), .slice a ps.length c] 24))
  have HMO := hidIt hok.mono
  have hj40 : j < 40 := by have := hok.n40; omega
  clear h hgr hok
  go_enter Tryd.func75, Tryd.ntmps75
  go_upto_region 1 with (fail)
  generalize (w.alloc (.cells #[.int .i64 (N : Int), .slice a ps.length c] 24)) = w1 at *
  generalize w.heap.size = P at HX ⊢
  obtain ⟨x0, x1⟩ := And.intro (cell_two0 HX.out) (cell_two1 HX.out)
  have lx := lt_of_block HX.out
  go_wp2_with fail
  refine (bsearch_any _ ps (j : Int) w1 H1.out hl HMO.out).mono ?_
  rintro e w2 ⟨i, f, rfl, hs, hb2⟩
  have HS := hidIt hs
  have HX2 := hidIt (blk_kept2 HX.out hb2)
  have H2 := hidIt (H1.out.below hb2)
  have HB2 := hidIt (HB.out.trans (Below.mono hb2 HB.out.size))
  clear hs hb2 x0 x1 lx HX H1 HB
  obtain ⟨x0, x1⟩ := And.intro (cell_two0 HX2.out) (cell_two1 HX2.out)
  have lx := lt_of_block HX2.out
  have hw1 : IntKind.i64.wrap ((j : Int) + 1) = (j : Int) + 1 := IntWalk.i64_in _ (by omega)
  go_wp2_with fail
  refine (bsearch_any _ ps ((j : Int) + 1) w2 H2.out hl HMO.out).mono ?_
  rintro e w3 ⟨m, f2, rfl, hs2, hb3⟩
  obtain ⟨hij, hml, hta⟩ := srch_take HS.out HMO.out hs2
  have HX3 := hidIt (blk_kept2 HX2.out hb3)
  have HB3 := hidIt (HB2.out.trans (Below.mono hb3 HB2.out.size))
  have HTA := hidIt hta
  have hij2 : (i : Int) ≤ (m : Int) := by omega
  have hmc : (m : Int) ≤ (c : Int) := by omega
  have hi0 : (0 : Int) ≤ (i : Int) := by omega
  have hLEN : Hid ((outP ps j).length = m - i) := by
    show _ = _
    unfold outP
    rw [← hta, List.length_take, List.length_drop]
    omega
  clear hta hs2 hb3 x0 x1 lx HX2 H2 HB2 HS
  obtain ⟨x0, x1⟩ := And.intro (cell_two0 HX3.out) (cell_two1 HX3.out)
  have lx := lt_of_block HX3.out
  go_wp2_with fail
  · go_ret
    exact ⟨_, _, i, m - i, by rw [hLEN.out]; rfl, HTA.out.symm, .inl (List.eq_nil_of_length_eq_zero (by rw [hLEN.out]; omega)), HB3.out⟩
  · go_ret
    exact ⟨_, _, i, m - i, by rw [hLEN.out]; rfl, HTA.out.symm, .inr rfl, HB3.out⟩
theorem AttOut.pcb {ps : List (Int × Int)} {a0 a : Option Addr} {j i m : Nat} {B : Nat} {w : World} (h : PCB B w a0 ps) (h1 : outP ps j = (ps.drop i).take m) (h2 : outP ps j = [] ∨ a = a0.map fun x => x.add (i * 2)) : PCB B w a (outP ps j) := by
  rcases h2 with h2 | rfl
  · exact .inl h2
  · rw [h1]; exact h.sub i m
end Go.Proofs.YtfiaoibfejginaaDoor
