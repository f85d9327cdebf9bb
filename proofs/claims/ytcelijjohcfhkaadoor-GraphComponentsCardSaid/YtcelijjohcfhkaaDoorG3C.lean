/- The order of the classes: there is one, and attacks go only within classes and from earlier to later ones. -/
import Derived.Test.YtcelijjohcfhkaaDoorG3B
import Derived.Test.YtcelijjohcfhkaaDoorG1D
namespace Go.Proofs.YtcelijjohcfhkaaDoor
set_option linter.unusedVariables false
set_option linter.unusedSimpArgs false
open Go Go.RowKit Go.Sort

theorem erase_perm {α : Type} : ∀ (l : List α) (k : Nat) (h : k < l.length), (l[k] :: l.eraseIdx k).Perm l
  | x :: t, 0, _ => List.Perm.refl _
  | x :: t, k + 1, h => by
    have ih := erase_perm t k (by simpa using h)
    exact (List.Perm.swap _ _ _).trans (ih.cons x)
theorem countP_lt {α : Type} {p q : α → Bool} : ∀ (l : List α), (∀ x ∈ l, p x = true → q x = true) → (∃ x ∈ l, q x = true ∧ p x = false) → l.countP p < l.countP q
  | [], _, ⟨x, hx, _⟩ => by cases hx
  | a :: l, h, ⟨x, hx, h1, h2⟩ => by
    have hle : l.countP p ≤ l.countP q := List.countP_mono_left (fun y hy => h y (List.mem_cons_of_mem _ hy))
    rw [List.countP_cons, List.countP_cons]
    rcases List.mem_cons.1 hx with rfl | hx
    · rw [h1, h2]
      simp only [Bool.false_eq_true, if_false, if_true]
      omega
    · have ih := countP_lt l (fun y hy => h y (List.mem_cons_of_mem _ hy)) ⟨x, hx, h1, h2⟩
      have ha := h a (List.mem_cons_self ..)
      cases hp : p a <;> cases hq : q a <;> simp_all <;> omega

theorem attOf_bit (rat : Nat → BitVec 64) (S : BitVec 64) (x : Nat) : (attOf rat S).getLsbD x = true ↔ ∃ y, S.getLsbD y = true ∧ (rat y).getLsbD x = true := by
  have gen : ∀ (l : List Nat) (a : BitVec 64), (l.foldl (fun a i => a ||| rat i) a).getLsbD x = true ↔ a.getLsbD x = true ∨ ∃ y ∈ l, (rat y).getLsbD x = true := by
    intro l
    induction l with
    | nil => intro a; simp
    | cons y l ih =>
      intro a
      rw [List.foldl_cons, ih, BitVec.getLsbD_or, Bool.or_eq_true]
      constructor
      · rintro ((h | h) | ⟨z, hz, h⟩)
        · exact .inl h
        · exact .inr ⟨y, List.mem_cons_self .., h⟩
        · exact .inr ⟨z, List.mem_cons_of_mem _ hz, h⟩
      · rintro (h | ⟨z, hz, h⟩)
        · exact .inl (.inl h)
        · rcases List.mem_cons.1 hz with rfl | hz
          · exact .inl (.inr h)
          · exact .inr ⟨z, hz, h⟩
  unfold attOf
  rw [gen]
  constructor
  · rintro (h | ⟨y, hy, h⟩)
    · simp at h
    · exact ⟨y, (mem_members.1 hy).2, h⟩
  · rintro ⟨y, hy, h⟩
    exact .inr ⟨y, mem_members.2 ⟨BitVec.lt_of_getLsbD hy, hy⟩, h⟩
theorem freeB_iff (rat : Nat → BitVec 64) (L c : BitVec 64) : freeB rat L c = true ↔ ∀ x y, c.getLsbD y = true → (rat y).getLsbD x = true → L.getLsbD x = true ∨ c.getLsbD x = true := by
  unfold freeB
  rw [beq_iff_eq]
  constructor
  · intro h x y hy hx
    have h1 := congrArg (fun b : BitVec 64 => b.getLsbD x) h
    have h2 := (attOf_bit rat c x).2 ⟨y, hy, hx⟩
    have h3 := BitVec.lt_of_getLsbD h2
    simp only [BitVec.getLsbD_and, BitVec.getLsbD_not, BitVec.getLsbD_or, h2, h3, decide_true, Bool.true_and, BitVec.getLsbD_zero, Bool.not_eq_false', Bool.or_eq_true] at h1
    exact h1
  · intro h
    apply BitVec.eq_of_getLsbD_eq
    intro x hx
    simp only [BitVec.getLsbD_and, BitVec.getLsbD_not, BitVec.getLsbD_or, hx, decide_true, Bool.true_and, BitVec.getLsbD_zero]
    cases ha : (attOf rat c).getLsbD x
    · rfl
    · obtain ⟨y, hy, hxy⟩ := (attOf_bit rat c x).1 ha
      rcases h x y hy hxy with h1 | h1 <;> simp [h1]

/-- Sets apart from each other. -/
def Apart (a b : BitVec 64) : Prop := ∀ j, a.getLsbD j = true → b.getLsbD j = false
theorem Apart.symm {a b : BitVec 64} (h : Apart a b) : Apart b a := fun j hb => by
  cases ha : a.getLsbD j
  · rfl
  · rw [h j ha] at hb; cases hb

theorem order_ok (rat : Nat → BitVec 64) : ∀ (f : Nat) (r : List (BitVec 64)) (L : BitVec 64) (l : List (BitVec 64)), orderF rat f r L = some l → r.Pairwise Apart → (∀ c ∈ r, Apart c L) →
    l.Perm r ∧ l.Pairwise fun a b => ∀ x y, b.getLsbD x = true → a.getLsbD y = true → (rat y).getLsbD x = false
  | 0, r, L, l, h, _, _ => by
    unfold orderF at h
    split at h
    · rename_i e
      injection h with h
      subst h e
      exact ⟨List.Perm.refl _, List.Pairwise.nil⟩
    · cases h
  | f + 1, r, L, l, h, hd, hL => by
    unfold orderF at h
    split at h
    · rename_i e
      injection h with h
      subst h e
      exact ⟨List.Perm.refl _, List.Pairwise.nil⟩
    · split at h
      · cases h
      · rename_i k hk
        obtain ⟨hkl, hfree, -⟩ := List.findIdx?_eq_some_iff_getElem.1 hk
        have hget : r.getD k 0#64 = r[k] := by rw [List.getD_eq_getElem?_getD, List.getElem?_eq_getElem hkl]; rfl
        rw [hget] at h
        obtain ⟨l', h1, rfl⟩ := Option.map_eq_some_iff.1 h
        have hp := erase_perm r k hkl
        have hd2 : (r[k] :: r.eraseIdx k).Pairwise Apart := (hp.pairwise_iff (fun h => h.symm)).2 hd
        obtain ⟨hd3, hd4⟩ := List.pairwise_cons.1 hd2
        obtain ⟨i1, i2⟩ := order_ok rat f (r.eraseIdx k) (L ||| r[k]) l' h1 hd4 (fun c hc j hj => by
          rw [BitVec.getLsbD_or, hL c ((List.eraseIdx_sublist r k).subset hc) j hj, (hd3 c hc).symm j hj]
          rfl)
        refine ⟨(i1.cons _).trans hp, List.pairwise_cons.2 ⟨fun b hb x y hx hy => ?_, i2⟩⟩
        have hb' := i1.subset hb
        cases hr : (rat y).getLsbD x
        · rfl
        · rcases (freeB_iff rat L r[k]).1 hfree x y hy hr with h2 | h2
          · rw [hL b ((List.eraseIdx_sublist r k).subset hb') x hx] at h2; cases h2
          · rw [hd3 b hb' x h2] at hx; cases hx

/-- What is left of the classes, and what is listed. -/
structure Left (att : Nat → BitVec 64) (N : Nat) (r : List (BitVec 64)) (L : BitVec 64) : Prop where
  dis : r.Pairwise Apart
  scc : ∀ c ∈ r, ∀ x, c.getLsbD x = true → ∀ y, c.getLsbD y = true ↔ Wy att x y ∧ Wy att y x
  ne : ∀ c ∈ r, ∃ j, c.getLsbD j = true
  lt : ∀ c ∈ r, ∀ j, c.getLsbD j = true → j < N
  all : ∀ j, j < N → L.getLsbD j = true ∨ ∃ c ∈ r, c.getLsbD j = true
noncomputable def reachesC (att : Nat → BitVec 64) (c : BitVec 64) (j : Nat) : Bool := @decide (∃ x, c.getLsbD x = true ∧ Wy att j x) (Classical.propDecidable _)
theorem reachesC_iff {att : Nat → BitVec 64} {c : BitVec 64} {j : Nat} : reachesC att c j = true ↔ ∃ x, c.getLsbD x = true ∧ Wy att j x := by unfold reachesC; exact @decide_eq_true_iff _ (Classical.propDecidable _)
theorem Left.free {att rat : Nat → BitVec 64} {N : Nat} {r : List (BitVec 64)} {L : BitVec 64} (h : Left att N r L) (hr : ∀ x y, (rat y).getLsbD x = true → (att x).getLsbD y = true ∧ x < N) : ∀ (m : Nat) (c : BitVec 64), c ∈ r → (List.range N).countP (reachesC att c) ≤ m → ∃ c' ∈ r, freeB rat L c' = true
  | m, c, hc, hm => by
    by_cases hf : freeB rat L c = true
    · exact ⟨c, hc, hf⟩
    · have h1 : ∃ x y, c.getLsbD y = true ∧ (rat y).getLsbD x = true ∧ ¬ L.getLsbD x = true ∧ ¬ c.getLsbD x = true := by
        apply Classical.byContradiction
        intro hn
        apply hf
        rw [freeB_iff]
        intro x y hy hx
        apply Classical.byContradiction
        intro hn2
        exact hn ⟨x, y, hy, hx, fun e => hn2 (.inl e), fun e => hn2 (.inr e)⟩
      obtain ⟨x, y, hy, hx, hxL, hxc⟩ := h1
      obtain ⟨hxy, hxN⟩ := hr x y hx
      obtain ⟨d, hd, hdx⟩ := (h.all x hxN).resolve_left hxL
      have hlt : (List.range N).countP (reachesC att d) < (List.range N).countP (reachesC att c) := by
        refine countP_lt _ (fun j _ hj => ?_) ⟨y, List.mem_range.2 (h.lt c hc y hy), reachesC_iff.2 ⟨y, hy, .here⟩, ?_⟩
        · obtain ⟨z, hz, hw⟩ := reachesC_iff.1 hj
          exact reachesC_iff.2 ⟨y, hy, (hw.trans ((h.scc d hd z hz x).1 hdx).1).step hxy⟩
        · rw [← Bool.not_eq_true]
          intro e
          obtain ⟨z, hz, hw⟩ := reachesC_iff.1 e
          have hyx : Wy att y x := hw.trans ((h.scc d hd z hz x).1 hdx).1
          exact hxc ((h.scc c hc y hy x).2 ⟨hyx, Wy.one hxy⟩)
      match m, hm with
      | 0, hm => omega
      | m + 1, hm => exact Left.free h hr m d hd (by omega)

theorem order_some {att rat : Nat → BitVec 64} {N : Nat} (hr : ∀ x y, (rat y).getLsbD x = true → (att x).getLsbD y = true ∧ x < N) : ∀ (f : Nat) (r : List (BitVec 64)) (L : BitVec 64), r.length ≤ f → Left att N r L → ∃ l, orderF rat f r L = some l
  | 0, r, L, hf, _ => ⟨[], by
    obtain rfl : r = [] := List.eq_nil_of_length_eq_zero (by omega)
    rfl⟩
  | f + 1, r, L, hf, h => by
    unfold orderF
    split
    · exact ⟨_, rfl⟩
    · rename_i hne
      obtain ⟨c, hc⟩ := List.exists_mem_of_ne_nil r hne
      obtain ⟨c', hc', hfree⟩ := h.free hr _ c hc (Nat.le_refl _)
      split
      · rename_i hn
        have := List.findIdx?_eq_none_iff.1 hn c' hc'
        rw [hfree] at this
        cases this
      · rename_i k hk
        obtain ⟨hkl, -, -⟩ := List.findIdx?_eq_some_iff_getElem.1 hk
        have hget : r.getD k 0#64 = r[k] := by rw [List.getD_eq_getElem?_getD, List.getElem?_eq_getElem hkl]; rfl
        rw [hget]
        have hs := List.eraseIdx_sublist r k
        have hp := erase_perm r k hkl
        obtain ⟨l, hl⟩ := order_some hr f (r.eraseIdx k) (L ||| r[k]) (by rw [List.length_eraseIdx, if_pos hkl]; omega) ⟨h.dis.sublist hs, fun c hc => h.scc c (hs.subset hc), fun c hc => h.ne c (hs.subset hc), fun c hc => h.lt c (hs.subset hc), fun j hj => by
          rw [BitVec.getLsbD_or, Bool.or_eq_true]
          rcases h.all j hj with h1 | ⟨c, hc, h1⟩
          · exact .inl (.inl h1)
          · rcases List.mem_cons.1 (hp.symm.subset hc) with rfl | h2
            · exact .inl (.inr h1)
            · exact .inr ⟨c, h2, h1⟩⟩
        exact ⟨_, by rw [hl]; rfl⟩

/-- The components in their order: what the consequences ask of them. -/
structure CompL (N : Nat) (ps : List (Int × Int)) (l : List (BitVec 64)) : Prop where
  scc : ∀ c ∈ l, ∀ x, c.getLsbD x = true → ∀ y, c.getLsbD y = true ↔ Wy (attB ps) x y ∧ Wy (attB ps) y x
  all : ∀ j, j < N → ∃ c ∈ l, c.getLsbD j = true
  ne : ∀ c ∈ l, ∃ j, c.getLsbD j = true
  lt : ∀ c ∈ l, ∀ j, c.getLsbD j = true → j < N
  dis : l.Pairwise Apart
  ord : l.Pairwise fun a b => ∀ x y, b.getLsbD x = true → a.getLsbD y = true → (attB ps x).getLsbD y = false

theorem comp_exists {N : Nat} {ps : List (Int × Int)} (h : GOk (N : Int) ps) : ∃ l, CompOk N ps l ∧ CompL N ps l := by
  have hN : N ≤ 40 := by have := h.n40; omega
  have ha := att_lt h
  have hrev := rev_ok h
  have hrat : ∀ x y, (attB (revL N ps) y).getLsbD x = true ↔ (attB ps x).getLsbD y = true := fun x y => by
    rw [attB_bit ps x y (fun p hp => ⟨(h.ix p hp).2.1, by have := (h.ix p hp).2.2; omega⟩), attB_bit (revL N ps) y x (fun p hp => ⟨(hrev.ix p hp).2.1, by have := (hrev.ix p hp).2.2; omega⟩), decide_eq_true_iff, decide_eq_true_iff, mem_revL]
    exact ⟨fun e => e.2, fun e => ⟨(h.ix _ e).2, e⟩⟩
  have hxN : ∀ x y, (attB ps x).getLsbD y = true → x < N := fun x y e => by
    rw [attB_bit ps x y (fun p hp => ⟨(h.ix p hp).2.1, by have := (h.ix p hp).2.2; omega⟩), decide_eq_true_iff] at e
    have := (h.ix _ e).1.2
    simp only at this
    omega
  obtain ⟨c1, c2, c3, c4, c5⟩ := run_classes (attB ps) N hN ha
  generalize hcs : (runF (attB ps) N N).comps = cs at *
  have hp := List.mergeSort_perm cs (fun a b => decide (ctzB a ≤ ctzB b))
  have hs := List.pairwise_mergeSort (le := fun a b => decide (ctzB a ≤ ctzB b)) (fun a b c h1 h2 => by simp only [decide_eq_true_eq] at *; omega) (fun a b => by simp only [Bool.or_eq_true, decide_eq_true_eq]; omega) cs
  generalize cs.mergeSort (fun a b => decide (ctzB a ≤ ctzB b)) = ss at *
  have hdis : ss.Pairwise Apart := (hp.pairwise_iff (fun h => Apart.symm h)).2 c5
  have hmem : ∀ c, c ∈ ss → c ∈ cs := fun c hc => hp.subset hc
  have hlow : ∀ c, c ∈ ss → c.getLsbD (ctzB c) = true := fun c hc => by
    obtain ⟨j, hj⟩ := c3 c (hmem c hc)
    exact (low_facts (fun e => by rw [e] at hj; simp at hj)).2.1
  have hstrict : ss.Pairwise fun x y => ctzB x < ctzB y := by
    refine List.Pairwise.imp_of_mem (R := fun a b => decide (ctzB a ≤ ctzB b) = true ∧ Apart a b) (fun {a b} ha hb hab => ?_) (hs.and hdis)
    obtain ⟨h1, h2⟩ := hab
    simp only [decide_eq_true_eq] at h1
    rcases Nat.lt_or_eq_of_le h1 with h3 | h3
    · exact h3
    · have h4 := h2 _ (hlow a ha)
      rw [h3, hlow b hb] at h4
      cases h4
  have hleft : Left (attB ps) N ss 0#64 := ⟨hdis, fun c hc => c1 c (hmem c hc), fun c hc => c3 c (hmem c hc), fun c hc => c4 c (hmem c hc), fun j hj => by
    obtain ⟨c, hc, h1⟩ := c2 j hj
    exact .inr ⟨c, hp.symm.subset hc, h1⟩⟩
  obtain ⟨l, hl⟩ := order_some (rat := attB (revL N ps)) (fun x y e => ⟨(hrat x y).1 e, hxN x y ((hrat x y).1 e)⟩) ss.length ss 0#64 (Nat.le_refl _) hleft
  obtain ⟨o1, o2⟩ := order_ok _ _ _ _ _ hl hdis (fun c hc j hj => by simp)
  have hlm : ∀ c, c ∈ l → c ∈ cs := fun c hc => hmem c (o1.subset hc)
  refine ⟨l, ⟨ss, by rw [hcs]; exact hp, hstrict, hl⟩, ⟨fun c hc => c1 c (hlm c hc), fun j hj => ?_, fun c hc => c3 c (hlm c hc), fun c hc => c4 c (hlm c hc), (o1.pairwise_iff (fun h => Apart.symm h)).2 hdis, o2.imp fun {a b} hab x y hx hy => ?_⟩⟩
  · obtain ⟨c, hc, h1⟩ := c2 j hj
    exact ⟨c, o1.symm.subset (hp.symm.subset hc), h1⟩
  · have h1 := hab x y hx hy
    rw [← Bool.not_eq_true] at h1 ⊢
    exact fun e => h1 ((hrat x y).2 e)
end Go.Proofs.YtcelijjohcfhkaaDoor
