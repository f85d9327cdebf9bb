/- Forgetting an atom, as bits; substituting a constant for it. -/
import Derived.Test.YtmkcohcpdfabbaaDoorWorld
import Derived.Test.YtmkcohcpdfabbaaDoorSubst2
namespace Go.Proofs.YtmkcohcpdfabbaaDoor
set_option linter.unusedVariables false
set_option linter.unusedSimpArgs false
open Go Go.RowKit

/-- The world with the atom number m made true; made false. -/
def hiW (j m : Nat) : Nat := if j.testBit m then j else j + 2 ^ m
def loW (j m : Nat) : Nat := if j.testBit m then j - 2 ^ m else j

def factF (j m : Nat) : Bool :=
  decide (hiW j m < 64) && decide (loW j m < 64) &&
  (if j.testBit m then decide (2 ^ m ≤ j) && (!wI m (j + 2 ^ m)) && (!wI m (j - 2 ^ m)) else decide (j + 2 ^ m < 64) && wI m (j + 2 ^ m) && (decide (j < 2 ^ m) || wI m (j - 2 ^ m))) &&
  (hiW (hiW j m) m == hiW j m) && (loW (hiW j m) m == loW j m) && (hiW (loW j m) m == hiW j m) && (loW (loW j m) m == loW j m) &&
  (List.range 7).all fun i => ((hiW j m).testBit i == if i = m then true else j.testBit i) && ((loW j m).testBit i == if i = m then false else j.testBit i)
theorem factF_F : ∀ j : Fin 64, ∀ m : Fin 6, factF j.val m.val = true := by decide +kernel
theorem factR : ∀ j : Fin 64, ∀ m : Fin 4, ((decide (j.val < 16) == decide (hiW j.val m.val < 16)) && (decide (j.val < 16) == decide (loW j.val m.val < 16))) = true := by decide +kernel

theorem forgetI_bit (A : BitVec 64) (m j : Nat) (hm : m < 6) (hj : j < 64) : (forgetI A m).getLsbD j = (A.getLsbD (hiW j m) || A.getLsbD (loW j m)) := by
  have h := factF_F ⟨j, hj⟩ ⟨m, hm⟩
  simp only [factF, Bool.and_eq_true, decide_eq_true_eq] at h
  obtain ⟨⟨⟨⟨⟨⟨⟨h1, h2⟩, h3⟩, -⟩, -⟩, -⟩, -⟩, -⟩ := h
  unfold forgetI
  simp only [BitVec.getLsbD_or, BitVec.getLsbD_ushiftRight, BitVec.getLsbD_shiftLeft, BitVec.getLsbD_and, BitVec.getLsbD_not]
  by_cases hb : j.testBit m = true
  · have e1 : hiW j m = j := by unfold hiW; rw [if_pos hb]
    have e2 : loW j m = j - 2 ^ m := by unfold loW; rw [if_pos hb]
    rw [if_pos hb] at h3
    simp only [Bool.and_eq_true, decide_eq_true_eq, Bool.not_eq_true'] at h3
    obtain ⟨⟨h4, h5⟩, h6⟩ := h3
    have hw1 : (wset (wI m)).getLsbD (2 ^ m + j) = false := by
      by_cases h64 : 2 ^ m + j < 64
      · rw [wset_bit _ _ h64, Nat.add_comm]; exact h5
      · exact BitVec.getLsbD_of_ge _ _ (by omega)
    rw [e1, e2, hw1, wset_bit _ (j - 2 ^ m) (Nat.lt_of_le_of_lt (Nat.sub_le _ _) hj), h6]
    have hlt : decide (j < 2 ^ m) = false := decide_eq_false (by omega)
    have hlt' : decide (j - 2 ^ m < 64) = true := decide_eq_true (Nat.lt_of_le_of_lt (Nat.sub_le _ _) hj)
    have hlt2 : decide (j < 64) = true := decide_eq_true (by omega)
    rw [hlt, hlt', hlt2]
    simp
  · have hb' : j.testBit m = false := by simpa using hb
    have e1 : hiW j m = j + 2 ^ m := by unfold hiW; rw [if_neg hb]
    have e2 : loW j m = j := by unfold loW; rw [if_neg hb]
    rw [if_neg hb] at h3
    simp only [Bool.and_eq_true, decide_eq_true_eq, Bool.or_eq_true] at h3
    obtain ⟨⟨h4, h5⟩, h6⟩ := h3
    rw [e1, e2, Nat.add_comm (2 ^ m) j, wset_bit _ (j + 2 ^ m) h4, h5]
    have hz : (decide (j < 64) && !decide (j < 2 ^ m) && (A.getLsbD (j - 2 ^ m) && (decide (j - 2 ^ m < 64) && !(wset (wI m)).getLsbD (j - 2 ^ m)))) = false := by
      rcases h6 with h6 | h6
      · rw [decide_eq_true h6]; simp
      · rw [wset_bit _ (j - 2 ^ m) (Nat.lt_of_le_of_lt (Nat.sub_le _ _) hj), h6]; simp
    rw [hz]
    cases A.getLsbD j <;> simp

theorem forgetI_idem (A : BitVec 64) (m : Nat) (hm : m < 6) : forgetI (forgetI A m) m = forgetI A m := set_ext fun j hj => by
  have h := factF_F ⟨j, hj⟩ ⟨m, hm⟩
  simp only [factF, Bool.and_eq_true, decide_eq_true_eq, beq_iff_eq] at h
  obtain ⟨⟨⟨⟨⟨⟨⟨h1, h2⟩, h3⟩, h4⟩, h5⟩, h6⟩, h7⟩, -⟩ := h
  rw [forgetI_bit _ m j hm hj, forgetI_bit _ m _ hm h1, forgetI_bit _ m _ hm h2, forgetI_bit _ m j hm hj, h4, h5, h6, h7]
  cases A.getLsbD (hiW j m) <;> cases A.getLsbD (loW j m) <;> rfl
theorem forgetI_le (A : BitVec 64) (m : Nat) (hm : m < 6) : A &&& ~~~(forgetI A m) = 0#64 := set_ext fun j hj => by
  simp only [BitVec.getLsbD_and, BitVec.getLsbD_not, BitVec.getLsbD_zero, forgetI_bit _ m j hm hj]
  have e : j = hiW j m ∨ j = loW j m := by
    unfold hiW loW
    by_cases hb : j.testBit m = true
    · rw [if_pos hb]; exact .inl rfl
    · rw [if_neg hb, if_neg hb]; exact .inr rfl
  rcases e with e | e
  · rw [← e]
    cases A.getLsbD j <;> simp
  · rw [← e]
    cases A.getLsbD j <;> simp
theorem forgetI_in (A : BitVec 64) (m : Nat) (hm : m < 4) (hA : A &&& allS 4 = A) : forgetI A m &&& allS 4 = forgetI A m := set_ext fun j hj => by
  have h := factR ⟨j, hj⟩ ⟨m, hm⟩
  rw [Bool.and_eq_true, beq_iff_eq, beq_iff_eq] at h
  obtain ⟨h1, h2⟩ := h
  have h3 := factF_F ⟨j, hj⟩ ⟨m, by omega⟩
  simp only [factF, Bool.and_eq_true, decide_eq_true_eq] at h3
  obtain ⟨⟨⟨⟨⟨⟨⟨h4, h5⟩, -⟩, -⟩, -⟩, -⟩, -⟩, -⟩ := h3
  have hb : ∀ k, k < 64 → A.getLsbD k = (A.getLsbD k && decide (k < 16)) := fun k hk => by
    have := congrArg (·.getLsbD k) hA
    simp only [BitVec.getLsbD_and, allS, wset_bit _ k hk] at this
    exact this.symm
  rw [BitVec.getLsbD_and, allS, wset_bit _ j hj, forgetI_bit _ m j (by omega) hj, hb _ h4, hb _ h5]
  have e1 : decide (hiW j m < 16) = decide (j < 2 ^ 4) := h1.symm
  have e2 : decide (loW j m < 16) = decide (j < 2 ^ 4) := h2.symm
  rw [e1, e2]
  cases decide (j < 2 ^ 4) <;> simp

theorem idx_letter : ∀ m : Fin 4, idxB (vocL 4) (letter m.val) = m.val ∧ inB (vocL 4) (letter m.val) = true := by decide +kernel
theorem idxB_le (voc : List ByteArray) (s : ByteArray) : idxB voc s ≤ voc.length := List.findIdx_le_length

/-- An atom made true or false is the world with it. -/
theorem atom_set (m j : Nat) (hm : m < 4) (hj : j < 64) (b : Bool) : (fun s => if s = letter m then b else atomAt (vocL 4) j s) = atomAt (vocL 4) (if b then hiW j m else loW j m) := by
  funext s
  have hi := (idx_letter ⟨m, hm⟩).1
  have h := factF_F ⟨j, hj⟩ ⟨m, by omega⟩
  simp only [factF, Bool.and_eq_true, List.all_eq_true, List.mem_range, beq_iff_eq] at h
  obtain ⟨-, h8⟩ := h
  have hle := idxB_le (vocL 4) s
  rw [vocL_len] at hle
  obtain ⟨h9, h10⟩ := h8 (idxB (vocL 4) s) (by omega)
  have key : idxB (vocL 4) s = m → s = letter m := fun e => by
    have hlt : idxB (vocL 4) s < (vocL 4).length := by rw [vocL_len]; omega
    have h1 := List.findIdx_getElem (w := hlt)
    rw [beq_iff_eq] at h1
    have h2 := bytes_inj h1
    rw [← h2]
    have hget : ∀ k (h : k < (vocL 4).length), (vocL 4)[k] = letter k := by intro k h; simp [vocL]
    exact (hget _ hlt).trans (by rw [e])
  by_cases e : s = letter m
  · subst e
    have hi' : idxB (vocL 4) (letter m) = m := hi
    rw [if_pos rfl]
    rw [if_pos hi'] at h9 h10
    cases b
    · exact h10.symm
    · exact h9.symm
  · rw [if_neg e]
    have hne : idxB (vocL 4) s ≠ m := fun x => e (key x)
    rw [if_neg hne] at h9 h10
    cases b
    · exact h10.symm
    · exact h9.symm

abbrev unitT : Tree := .node 1 ⟨#[]⟩ []
abbrev nullT : Tree := .node 2 ⟨#[]⟩ []
/-- The disjunction of the two formulas in which the atom is replaced by 1 and by 0. -/
abbrev forgT (f : Tree) (m : Nat) : Tree := .node 6 ⟨#[]⟩ [substT (letter m) unitT f, substT (letter m) nullT f]

theorem forg_mod (f : Tree) (m : Nat) (hm : m < 4) (hf : wellF f = true) : modM 4 (forgT f m) = forgetS (vocL 4) (modM 4 f) (letter m) := by
  have hi : idxB (vocL 4) (letter m) = m := (idx_letter ⟨m, hm⟩).1
  have hin : inB (vocL 4) (letter m) = true := (idx_letter ⟨m, hm⟩).2
  rw [forgetS, if_pos hin, hi, vocL_len]
  have hA : modM 4 f &&& allS 4 = modM 4 f := by unfold modM; rw [BitVec.and_assoc, BitVec.and_self]
  rw [hA]
  refine set_ext fun j hj => ?_
  have h := factF_F ⟨j, hj⟩ ⟨m, by omega⟩
  simp only [factF, Bool.and_eq_true, decide_eq_true_eq] at h
  obtain ⟨⟨⟨⟨⟨⟨⟨h1, h2⟩, -⟩, -⟩, -⟩, -⟩, -⟩, -⟩ := h
  have hr := factR ⟨j, hj⟩ ⟨m, hm⟩
  rw [Bool.and_eq_true, beq_iff_eq, beq_iff_eq] at hr
  obtain ⟨r1, r2⟩ := hr
  have e1 : decide (hiW j m < 2 ^ 4) = decide (j < 2 ^ 4) := r1.symm
  have e2 : decide (loW j m < 2 ^ 4) = decide (j < 2 ^ 4) := r2.symm
  rw [forgetI_bit _ m j (by omega) hj]
  unfold modM
  simp only [BitVec.getLsbD_and, modelsV_bit _ _ j hj, modelsV_bit _ _ _ h1, modelsV_bit _ _ _ h2, allS, wset_bit _ j hj, wset_bit _ _ h1, wset_bit _ _ h2, e1, e2]
  have s1 := subst_value (atomAt (vocL 4) j) (letter m) unitT f hf
  have s2 := subst_value (atomAt (vocL 4) j) (letter m) nullT f hf
  have v1 : valueB (atomAt (vocL 4) j) unitT = true := by simp [valueB]
  have v2 : valueB (atomAt (vocL 4) j) nullT = false := by simp [valueB]
  rw [v1, atom_set m j hm hj true] at s1
  rw [v2, atom_set m j hm hj false] at s2
  rw [if_pos rfl] at s1
  rw [if_neg (by decide)] at s2
  rw [← s1, ← s2]
  simp only [forgT, valueB, valuesB]
  cases valueB (atomAt (vocL 4) j) (substT (letter m) unitT f) <;> cases valueB (atomAt (vocL 4) j) (substT (letter m) nullT f) <;> cases decide (j < 2 ^ 4) <;> rfl

theorem forg_idem (A : BitVec 64) (m : Nat) (hm : m < 4) : forgetS (vocL 4) (forgetS (vocL 4) A (letter m)) (letter m) = forgetS (vocL 4) A (letter m) := by
  have hi : idxB (vocL 4) (letter m) = m := (idx_letter ⟨m, hm⟩).1
  have hin : inB (vocL 4) (letter m) = true := (idx_letter ⟨m, hm⟩).2
  simp only [forgetS, if_pos hin, hi, vocL_len]
  rw [forgetI_in _ m hm (by rw [BitVec.and_assoc, BitVec.and_self]), forgetI_idem _ m (by omega)]
theorem forg_le (f : Tree) (m : Nat) (hm : m < 4) : modM 4 f &&& ~~~(forgetS (vocL 4) (modM 4 f) (letter m)) = 0#64 := by
  have hi : idxB (vocL 4) (letter m) = m := (idx_letter ⟨m, hm⟩).1
  have hin : inB (vocL 4) (letter m) = true := (idx_letter ⟨m, hm⟩).2
  have hA : modM 4 f &&& allS 4 = modM 4 f := by unfold modM; rw [BitVec.and_assoc, BitVec.and_self]
  simp only [forgetS, if_pos hin, hi, vocL_len, hA]
  exact forgetI_le _ m (by omega)

theorem subst_good {n : Nat} (p : ByteArray) (g : Tree) (hg : g.all (nodeG n) = true) (hd : g.depth = 0) : ∀ t : Tree, t.all (nodeG n) = true → (substT p g t).all (nodeG n) = true ∧ (substT p g t).depth ≤ t.depth := by
  refine Tree.ind fun op name ts ih h => ?_
  obtain ⟨h1, h2⟩ := all_self h
  rw [substT_node]
  by_cases e : op = 3 ∧ ts.length = 0 ∧ name = p
  · rw [if_pos e]
    exact ⟨hg, by rw [hd]; exact Nat.zero_le _⟩
  · rw [if_neg e]
    have key : ∀ l : List Tree, (∀ t ∈ l, t ∈ ts) → allL (nodeG n) (l.map (substT p g)) = true ∧ depthL (l.map (substT p g)) ≤ depthL l := by
      intro l
      induction l with
      | nil => intro _; exact ⟨rfl, Nat.le_refl _⟩
      | cons t l ih2 =>
        intro hl
        obtain ⟨a1, a2⟩ := ih t (hl t (by simp)) (allL_mem h2 t (hl t (by simp)))
        obtain ⟨b1, b2⟩ := ih2 fun t ht => hl t (by simp [ht])
        simp only [List.map_cons, allL, depthL, Bool.and_eq_true]
        exact ⟨⟨a1, b1⟩, by omega⟩
    obtain ⟨k1, k2⟩ := key ts fun _ h => h
    refine ⟨?_, k2⟩
    rw [Tree.all, Bool.and_eq_true]
    refine ⟨?_, k1⟩
    have h3 := nodeG_kind h1
    have h4 := nodeG_name h1
    have h5 := nodeG_args h1
    rw [← kindB_len (ts := ts) (us := ts.map (substT p g)) (by simp)] at h3
    rw [← nameB_len (ts := ts) (us := ts.map (substT p g))] at h4
    rw [Tree.args_node] at h5
    have h6 : (op != 3 || (List.range n).any fun m => name.data.toList == (letter m).data.toList) = true := by
      unfold nodeG at h1
      rw [Bool.and_eq_true] at h1
      exact h1.2
    show (_ && _ && _ && _) = true
    rw [h3, h4, Tree.args_node, List.length_map, decide_eq_true h5]
    exact h6

theorem forg_good (f : Tree) (m : Nat) (hf : f.all (nodeG 4) = true ∧ f.depth ≤ 3) : (forgT f m).all (nodeG 4) = true ∧ (forgT f m).depth ≤ 4 := by
  have h1 := subst_good (n := 4) (letter m) unitT (gen_const 4 0 (by omega)) rfl f hf.1
  have h2 := subst_good (n := 4) (letter m) nullT (gen_const 4 1 (by omega)) rfl f hf.1
  exact Parts.node (n := 4) (d := 3) (ts := [substT (letter m) unitT f, substT (letter m) nullT f]) (fun t ht => by
    rcases List.mem_cons.1 ht with rfl | ht
    · exact ⟨h1.1, by omega⟩
    · rw [List.mem_singleton.1 ht]; exact ⟨h2.1, by omega⟩) (op := 6) (node_good (.inr (.inl ⟨.inr rfl, by simp⟩)))

/-- A box of an empty formula holds no part of a well-formed one. -/
theorem FormIn.unbox {w : World} {S : Nat → Prop} {nb : Nat} {s0 : ByteArray} {v0 : Value} {ty : TypeId} (hz : w.heap[nb]? = some (.cells #[.int .i64 0, .string s0, v0] ty (0, 0))) (hv0 : ∀ k i, v0 ≠ .int k i) {v : Value} {t : Tree} (h : FormIn w S v t) (hk : t.all kindB = true) : FormIn w (fun i => S i ∧ i ≠ nb) v t := by
  induction h with
  | node op name a cap ts b off o s v hop hname hlen hcap ha hc hs ih =>
    obtain ⟨k1, k2⟩ := all_self hk
    refine .node op name a cap ts b off o s v hop hname hlen hcap (fun h => ⟨(ha h).1, (ha h).2, fun e => ?_⟩) hc (fun i hi => ih i hi (allL_mem k2 _ (List.getElem_mem hi)))
    subst e
    have c0 := (hc 0 h).1
    have hsh := hs 0 h
    obtain ⟨a', cap', b', off', e, -⟩ := hsh.form
    injection e with e
    have e1 : o 0 = ts[0].op := by simp at e; exact e.1
    have hk0 := allL_mem k2 _ (List.getElem_mem h)
    have hop0 : ts[0].op ≠ 0 := by
      generalize ts[0] = t at hk0
      obtain ⟨op', name', ts'⟩ := t
      have hk1 := (all_self hk0).1
      unfold kindB at hk1
      simp only [Tree.op_node] at hk1 ⊢
      grind
    simp only [Nat.zero_mul, Nat.add_zero] at c0
    have hcc : (#[.int .i64 0, .string s0, v0] : Array Value)[off]? = some (.int .i64 (o 0)) := by simpa [World.cell?, hz] using c0
    match off, hcc with
    | 0, hcc => simp at hcc; exact hop0 (by omega)
    | 1, hcc => simp at hcc
    | 2, hcc => simp at hcc; exact hv0 _ _ hcc
    | n + 3, hcc => simp at hcc
end Go.Proofs.YtmkcohcpdfabbaaDoor
