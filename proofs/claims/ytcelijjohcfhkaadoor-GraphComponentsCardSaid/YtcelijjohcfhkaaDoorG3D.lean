/- Ways and Reach; the components of a graph turned round. -/
import Derived.Test.YtcelijjohcfhkaaDoorG3C
namespace Go.Proofs.YtcelijjohcfhkaaDoor
set_option linter.unusedVariables false
set_option linter.unusedSimpArgs false
open Go Go.RowKit Go.Sort

theorem att_mem {N : Nat} {ps : List (Int × Int)} (h : GOk (N : Int) ps) (x y : Nat) : (attB ps x).getLsbD y = true ↔ ((x : Int), (y : Int)) ∈ ps := by
  rw [attB_bit ps x y (fun p hp => ⟨(h.ix p hp).2.1, by have := (h.ix p hp).2.2; have := h.n40; omega⟩), decide_eq_true_iff]
theorem wy_rch {N : Nat} {ps : List (Int × Int)} (h : GOk (N : Int) ps) (i j : Nat) : Wy (attB ps) i j ↔ Rch ps i j := by
  constructor
  · intro hw
    induction hw with
    | here => exact .here
    | step _ e ih => exact .step ih ((att_mem h _ _).1 e)
  · intro hw
    induction hw with
    | here => exact .here
    | step _ e ih => exact .step ih ((att_mem h _ _).2 e)
theorem Rch.trans {ps : List (Int × Int)} {i k j : Nat} (h : Rch ps i k) (h2 : Rch ps k j) : Rch ps i j := by
  induction h2 with
  | here => exact h
  | step _ e ih => exact .step ih e
theorem rch_rev1 {N : Nat} {ps : List (Int × Int)} (h : GOk (N : Int) ps) {i j : Nat} (hw : Rch ps i j) : Rch (revL N ps) j i := by
  induction hw with
  | here => exact .here
  | step _ e ih => exact (Rch.step .here (mem_revL.2 ⟨(h.ix _ e).2, e⟩)).trans ih
theorem rch_rev2 {N : Nat} {ps : List (Int × Int)} {i j : Nat} (hw : Rch (revL N ps) j i) : Rch ps i j := by
  induction hw with
  | here => exact .here
  | step _ e ih => exact (Rch.step .here (mem_revL.1 e).2).trans ih
theorem rch_rev {N : Nat} {ps : List (Int × Int)} (h : GOk (N : Int) ps) (i j : Nat) : Rch (revL N ps) j i ↔ Rch ps i j := ⟨rch_rev2, rch_rev1 h⟩
/-- Two nodes are in the same component exactly if each reaches the other. -/
theorem CompL.same {N : Nat} {ps : List (Int × Int)} {l : List (BitVec 64)} (h : CompL N ps l) (hok : GOk (N : Int) ps) {c : BitVec 64} (hc : c ∈ l) {x y : Nat} (hx : c.getLsbD x = true) : c.getLsbD y = true ↔ Rch ps x y ∧ Rch ps y x := by
  rw [h.scc c hc x hx y, wy_rch hok, wy_rch hok]
theorem CompL.uniq {N : Nat} {ps : List (Int × Int)} {l : List (BitVec 64)} (h : CompL N ps l) {a b x : Nat} (ha : a < l.length) (hb : b < l.length) (h1 : l[a].getLsbD x = true) (h2 : l[b].getLsbD x = true) : a = b := by
  rcases Nat.lt_trichotomy a b with h3 | h3 | h3
  · have := List.pairwise_iff_getElem.1 h.dis a b ha hb h3 x h1
    rw [this] at h2; cases h2
  · exact h3
  · have := List.pairwise_iff_getElem.1 h.dis b a hb ha h3 x h2
    rw [this] at h1; cases h1
theorem CompL.fwd {N : Nat} {ps : List (Int × Int)} {l : List (BitVec 64)} (h : CompL N ps l) (hok : GOk (N : Int) ps) {a b x y : Nat} (ha : a < l.length) (hb : b < l.length) (h1 : l[a].getLsbD x = true) (h2 : l[b].getLsbD y = true) (he : ((x : Int), (y : Int)) ∈ ps) : a ≤ b := by
  rcases Nat.lt_or_ge b a with h3 | h3
  · have := List.pairwise_iff_getElem.1 h.ord b a hb ha h3 x y h1 h2
    rw [(att_mem hok x y).2 he] at this; cases this
  · exact h3
theorem CompL.nodup {N : Nat} {ps : List (Int × Int)} {l : List (BitVec 64)} (h : CompL N ps l) : l.Nodup := by
  refine List.Pairwise.imp_of_mem (R := Apart) (fun {a b} ha _ hab e => ?_) h.dis
  subst e
  obtain ⟨j, hj⟩ := h.ne a ha
  have := hab j hj
  rw [hj] at this; cases this
theorem nodup_len {α : Type} [DecidableEq α] : ∀ (l l' : List α), l.Nodup → (∀ x ∈ l, x ∈ l') → l.length ≤ l'.length
  | [], _, _, _ => Nat.zero_le _
  | x :: l, l', hn, hs => by
    obtain ⟨h1, h2⟩ := List.nodup_cons.1 hn
    have hx := hs x (List.mem_cons_self ..)
    have ih := nodup_len l (l'.erase x) h2 (fun y hy => (List.mem_erase_of_ne (fun e => h1 (by rw [← e]; exact hy))).2 (hs y (List.mem_cons_of_mem _ hy)))
    rw [List.length_erase_of_mem hx] at ih
    have := List.length_pos_of_mem hx
    rw [List.length_cons]
    omega
theorem comp_sub {N : Nat} {ps qs : List (Int × Int)} {l l' : List (BitVec 64)} (h : CompL N ps l) (h' : CompL N qs l') (hok : GOk (N : Int) ps) (hok' : GOk (N : Int) qs) (he : ∀ i j, Rch ps i j ∧ Rch ps j i ↔ Rch qs i j ∧ Rch qs j i) : ∀ c ∈ l, c ∈ l' := fun c hc => by
  obtain ⟨j, hj⟩ := h.ne c hc
  obtain ⟨d, hd, hdj⟩ := h'.all j (h.lt c hc j hj)
  have : c = d := by
    apply BitVec.eq_of_getLsbD_eq
    intro y _
    rw [Bool.eq_iff_iff, h.same hok hc hj, h'.same hok' hd hdj]
    exact he j y
  rw [this]
  exact hd
/-- The graph turned round has the same components. -/
theorem comp_rev {N : Nat} {ps : List (Int × Int)} {l l' : List (BitVec 64)} (hok : GOk (N : Int) ps) (h : CompL N ps l) (h' : CompL N (revL N ps) l') : l.length = l'.length ∧ ∀ c ∈ l, c ∈ l' := by
  have he : ∀ i j, Rch ps i j ∧ Rch ps j i ↔ Rch (revL N ps) i j ∧ Rch (revL N ps) j i := fun i j => by
    rw [rch_rev hok, rch_rev hok]
    exact And.comm
  have s1 := comp_sub h h' hok (rev_ok hok) he
  have s2 := comp_sub h' h (rev_ok hok) hok (fun i j => (he i j).symm)
  exact ⟨Nat.le_antisymm (nodup_len _ _ h.nodup s1) (nodup_len _ _ h'.nodup s2), s1⟩
end Go.Proofs.YtcelijjohcfhkaaDoor
