/- The theory of a set has the set's worlds as models. -/
import Derived.Test.YtmkcohcpdfabbaaDoorWorld
import Derived.Test.YtmkcohcpdfabbaaDoorQSameG
namespace Go.Proofs.YtmkcohcpdfabbaaDoor
set_option linter.unusedVariables false
set_option linter.unusedSimpArgs false
open Go Go.RowKit

theorem value_op1 {P : ByteArray → Bool} {t : Tree} (h : t.op = 1) : valueB P t = true := by
  obtain ⟨op, name, ts⟩ := t
  simp only [Tree.op_node] at h
  subst h
  simp [valueB]
theorem value_op2 {P : ByteArray → Bool} {t : Tree} (h : t.op = 2) : valueB P t = false := by
  obtain ⟨op, name, ts⟩ := t
  simp only [Tree.op_node] at h
  subst h
  simp [valueB]
theorem choice_value (P : ByteArray → Bool) (s : ByteArray) (y n : Tree) : valueB P (choiceT s y n) = if P s then valueB P y else valueB P n := by
  unfold choiceT
  split
  · rename_i h
    rw [value_op1 h.1, value_op2 h.2]
    simp [valueB]
  split
  · rename_i h
    rw [value_op1 h]
    simp only [valueB, valuesB]
    cases P s <;> simp
  split
  · rename_i h
    rw [value_op2 h.1, value_op1 h.2]
    simp only [valueB, valuesB]
    cases P s <;> simp
  split
  · rename_i h
    rw [value_op2 h]
    simp only [valueB, valuesB]
    cases P s <;> simp
  split
  · rename_i h
    rw [value_op1 h]
    simp only [valueB, valuesB]
    cases P s <;> simp
  split
  · rename_i h
    rw [value_op2 h]
    simp only [valueB, valuesB]
    cases P s <;> simp
  · simp only [valueB, valuesB]
    cases P s <;> simp

theorem thT_congr : ∀ (voc : List ByteArray) (P Q : ByteArray → Bool), (∀ s ∈ voc, P s = Q s) → ∀ S, valueB P (thT voc S) = valueB Q (thT voc S) := by
  intro voc
  induction voc with
  | nil =>
    intro P Q _ S
    unfold thT
    split <;> simp [valueB]
  | cons x rest ih =>
    intro P Q h S
    unfold thT
    have ih' := ih P Q fun s hs => h s (by simp [hs])
    split
    · simp [valueB]
    split
    · simp [valueB]
    split
    · exact ih' _
    · rw [choice_value, choice_value, h x (by simp), ih', ih']

theorem idxB_cons_ne {x s : ByteArray} {rest : List ByteArray} (h : s ≠ x) : idxB (x :: rest) s = idxB rest s + 1 := by
  unfold idxB
  rw [List.findIdx_cons]
  have : (x.data.toList == s.data.toList) = false := by
    rw [beq_eq_false_iff_ne]
    exact fun e => h (bytes_inj e).symm
  rw [this]
  rfl
theorem idxB_cons_self (x : ByteArray) (rest : List ByteArray) : idxB (x :: rest) x = 0 := by
  unfold idxB
  rw [List.findIdx_cons]
  simp

theorem value_th : ∀ (voc : List ByteArray), voc.Nodup → voc.length ≤ 6 → ∀ S, InS voc.length S → ∀ j, j < 2 ^ voc.length → valueB (atomAt voc j) (thT voc S) = S.getLsbD j := by
  intro voc
  induction voc with
  | nil =>
    intro _ _ S hS j hj
    obtain rfl : j = 0 := by simpa using hj
    unfold thT
    by_cases h0 : S = 0#64
    · rw [if_pos h0, h0]; simp [valueB]
    · rw [if_neg h0]
      have := inS_zero hS h0
      rw [this, allS, wset_bit _ 0 (by omega)]
      simp [valueB]
  | cons x rest ih =>
    intro hnd hl S hS j hj
    simp only [List.length_cons] at hl hS hj
    have hj' := hj
    rw [Nat.pow_succ] at hj'
    have h64 : 2 ^ rest.length ≤ 32 := by
      have := Nat.pow_le_pow_right (n := 2) (by omega) (show rest.length ≤ 5 by omega)
      omega
    have hnd' := (List.nodup_cons.1 hnd)
    have hcg : ∀ s ∈ rest, atomAt (x :: rest) j s = atomAt rest (j / 2) s := fun s hs => by
      unfold atomAt
      rw [idxB_cons_ne (fun e => hnd'.1 (by rw [← e]; exact hs)), Nat.testBit_succ]
    have hx : atomAt (x :: rest) j x = decide (j % 2 = 1) := by
      unfold atomAt
      rw [idxB_cons_self, Nat.testBit_zero]
    have hY : ∀ T, InS rest.length T → valueB (atomAt (x :: rest) j) (thT rest T) = T.getLsbD (j / 2) := fun T hT => by
      rw [thT_congr rest _ _ hcg T]
      exact ih hnd'.2 (by omega) T hT (j / 2) (by omega)
    have bY : (splitY S).getLsbD (j / 2) = S.getLsbD (2 * (j / 2) + 1) := by
      rw [splitY, wset_bit _ _ (by omega), splitP, decide_eq_true (by omega), Bool.true_and]
    have bN : (splitN S).getLsbD (j / 2) = S.getLsbD (2 * (j / 2) + 0) := by
      rw [splitN, wset_bit _ _ (by omega), splitP, decide_eq_true (by omega), Bool.true_and]
    unfold thT
    by_cases h0 : S = 0#64
    · rw [if_pos h0, h0]; simp [valueB]
    rw [if_neg h0]
    by_cases h1 : S = allS (rest.length + 1)
    · rw [if_pos h1, h1, allS, wset_bit _ j (by omega), decide_eq_true hj]; simp [valueB]
    rw [if_neg h1]
    by_cases h2 : splitY S = splitN S
    · rw [if_pos h2, hY _ (inS_splitY hS)]
      by_cases hp : j % 2 = 1
      · rw [bY]
        congr 1
        omega
      · rw [h2, bN]
        congr 1
        omega
    · rw [if_neg h2, choice_value, hx, hY _ (inS_splitY hS), hY _ (inS_splitN hS)]
      by_cases hp : j % 2 = 1
      · rw [decide_eq_true hp, if_pos rfl, bY]
        congr 1
        omega
      · rw [decide_eq_false hp, if_neg (by decide), bN]
        congr 1
        omega

theorem vocL_nodupF : ∀ n : Fin 7, ((vocL n.val).map fun s => s.data.toList).Nodup := by decide +kernel
theorem vocL_nodup {n : Nat} (h : n ≤ 6) : (vocL n).Nodup := by
  have := vocL_nodupF ⟨n, by omega⟩
  exact (List.Pairwise.of_map _ (fun a b h e => h (by rw [e])) this)

/-- The theory's models are the set. -/
theorem mod_th {n : Nat} (hn : n ≤ 6) (S : BitVec 64) : modM n (thT (vocL n) (S &&& allS n)) = S &&& allS n := set_ext fun j hj => by
  have hI : InS (vocL n).length (S &&& allS n) := by rw [vocL_len]; exact inS_all n S
  have hv := value_th (vocL n) (vocL_nodup hn) (by rw [vocL_len]; exact hn) (S &&& allS n) hI
  rw [vocL_len] at hv
  unfold modM
  rw [BitVec.getLsbD_and, modelsV_bit _ _ j hj]
  by_cases h : j < 2 ^ n
  · rw [hv j h, allS, wset_bit _ j hj, decide_eq_true h, Bool.and_true]
  · rw [BitVec.getLsbD_and, allS, wset_bit _ j hj, decide_eq_false h, Bool.and_false, Bool.and_false]

theorem choice_gen {n : Nat} {d : Nat} {s : ByteArray} {y z : Tree} (hs : ∃ m, m < n ∧ s = letter m) (hn : n ≤ 26) (hy : y.all (nodeG n) = true ∧ y.depth ≤ d) (hz : z.all (nodeG n) = true ∧ z.depth ≤ d) (hd : 1 ≤ d) :
    ((choiceT s y z).all (nodeG n) = true ∧ (choiceT s y z).depth ≤ d + 2) ∧ (choiceT s y z).nodes ≤ y.nodes + z.nodes + 6 := by
  obtain ⟨m, hm, rfl⟩ := hs
  have ha : (Tree.node 3 (letter m) []).all (nodeG n) = true ∧ (Tree.node 3 (letter m) []).depth ≤ 0 := ⟨gen_atom n m hm hn, Nat.le_refl _⟩
  have hna := Parts.node (n := n) (d := 0) (ts := [.node 3 (letter m) []]) (fun t ht => by rw [List.mem_singleton.1 ht]; exact ha) (op := 4) (node_good (.inl ⟨rfl, rfl⟩))
  have two : ∀ (k : Nat) (t u : Tree) (op : Int), (op = 5 ∨ op = 6) → (t.all (nodeG n) = true ∧ t.depth ≤ k) → (u.all (nodeG n) = true ∧ u.depth ≤ k) → (Tree.node op ⟨#[]⟩ [t, u]).all (nodeG n) = true ∧ (Tree.node op ⟨#[]⟩ [t, u]).depth ≤ k + 1 := fun k t u op ho h1 h2 =>
    Parts.node (n := n) (d := k) (ts := [t, u]) (fun x hx => by
      rcases List.mem_cons.1 hx with rfl | hx
      · exact h1
      · rw [List.mem_singleton.1 hx]; exact h2) (op := op) (node_good (.inr (.inl ⟨ho, by simp⟩)))
  have up : ∀ {t : Tree} {k l : Nat}, (t.all (nodeG n) = true ∧ t.depth ≤ k) → k ≤ l → (t.all (nodeG n) = true ∧ t.depth ≤ l) := fun h hk => ⟨h.1, Nat.le_trans h.2 hk⟩
  have py := y.nodes_pos
  have pz := z.nodes_pos
  unfold choiceT
  split
  · exact ⟨up ha (by omega), by simp [Tree.nodes, nodesL]⟩
  split
  · exact ⟨up (two d _ _ 6 (.inr rfl) (up ha (by omega)) hz) (by omega), by simp [Tree.nodes, nodesL]; omega⟩
  split
  · exact ⟨up hna (by omega), by simp [Tree.nodes, nodesL]⟩
  split
  · exact ⟨up (two d _ _ 5 (.inl rfl) (up hna (by omega)) hz) (by omega), by simp [Tree.nodes, nodesL]; omega⟩
  split
  · exact ⟨up (two d _ _ 6 (.inr rfl) (up hna (by omega)) hy) (by omega), by simp [Tree.nodes, nodesL]; omega⟩
  split
  · exact ⟨up (two d _ _ 5 (.inl rfl) (up ha (by omega)) hy) (by omega), by simp [Tree.nodes, nodesL]; omega⟩
  · exact ⟨two (d + 1) _ _ 6 (.inr rfl) (two d _ _ 5 (.inl rfl) (up ha (by omega)) hy) (two d _ _ 5 (.inl rfl) (up hna (by omega)) hz), by simp [Tree.nodes, nodesL]; omega⟩

theorem th_gen {n : Nat} (hn : n ≤ 26) : ∀ voc : List ByteArray, (∀ s ∈ voc, ∃ m, m < n ∧ s = letter m) → ∀ S, ((thT voc S).all (nodeG n) = true ∧ (thT voc S).depth ≤ 3 * voc.length) ∧ (thT voc S).nodes + 6 ≤ 7 * 2 ^ voc.length := by
  intro voc
  have h1 : (Tree.node 1 ⟨#[]⟩ []).all (nodeG n) = true := gen_const n 0 (by omega)
  have h2 : (Tree.node 2 ⟨#[]⟩ []).all (nodeG n) = true := gen_const n 1 (by omega)
  have leaf : ∀ (op : Int), (Tree.node op ⟨#[]⟩ []).nodes = 1 := fun op => by simp [Tree.nodes, nodesL]
  induction voc with
  | nil =>
    intro _ S
    unfold thT
    split
    · exact ⟨⟨h2, Nat.zero_le _⟩, by rw [leaf]; simp⟩
    · exact ⟨⟨h1, Nat.zero_le _⟩, by rw [leaf]; simp⟩
  | cons x rest ih =>
    intro h S
    have ih' := ih fun s hs => h s (by simp [hs])
    have hpow : 1 ≤ 2 ^ rest.length := Nat.one_le_two_pow
    simp only [List.length_cons, Nat.pow_succ]
    unfold thT
    split
    · exact ⟨⟨h2, Nat.zero_le _⟩, by rw [leaf]; omega⟩
    split
    · exact ⟨⟨h1, Nat.zero_le _⟩, by rw [leaf]; omega⟩
    split
    · obtain ⟨⟨a1, a2⟩, a3⟩ := ih' (splitY S)
      exact ⟨⟨a1, by omega⟩, by omega⟩
    · obtain ⟨⟨a1, a2⟩, a3⟩ := ih' (splitY S)
      obtain ⟨⟨b1, b2⟩, b3⟩ := ih' (splitN S)
      obtain ⟨⟨c1, c2⟩, c3⟩ := choice_gen (d := 3 * rest.length + 1) (h x (by simp)) hn ⟨a1, by omega⟩ ⟨b1, by omega⟩ (by omega)
      exact ⟨⟨c1, by omega⟩, by omega⟩

theorem th_at {n : Nat} (hn : n ≤ 6) (S : BitVec 64) : ((thT (vocL n) S).all (nodeG n) = true ∧ (thT (vocL n) S).depth ≤ 18) ∧ (thT (vocL n) S).nodes + 6 ≤ 7 * 2 ^ n := by
  have h := th_gen (n := n) (by omega) (vocL n) (fun s hs => by
    obtain ⟨m, hm, rfl⟩ := List.mem_map.1 hs
    exact ⟨m, List.mem_range.1 hm, rfl⟩) S
  rw [vocL_len] at h
  exact ⟨⟨h.1.1, by omega⟩, h.2⟩
theorem th_good {n : Nat} (hn : n ≤ 6) (S : BitVec 64) : GoodF n (thT (vocL n) S) := by
  obtain ⟨⟨h1, h2⟩, h3⟩ := th_at hn S
  have : 2 ^ n ≤ 2 ^ 6 := Nat.pow_le_pow_right (by omega) hn
  exact ⟨valE_of (by omega) (by omega) (all_imp (fun t => nodeG_kind) _ h1) (all_imp (fun t => nodeG_name) _ h1), over_gen (keys_gen _ h1)⟩

theorem fold_size (sep : ByteArray) : ∀ (l : List ByteArray) (a : ByteArray), a.size ≤ (l.foldl (fun a b => a ++ sep ++ b) a).size
  | [], a => Nat.le_refl _
  | b :: l, a => by
    have h := fold_size sep l (a ++ sep ++ b)
    rw [ByteArray.size_append, ByteArray.size_append] at h
    rw [List.foldl_cons]
    omega
/-- A text is not empty. -/
theorem textB_pos {t : Tree} (h1 : t.all kindB = true) (h2 : t.all nameB = true) : 0 < (textB t).size := by
  obtain ⟨op, name, ts⟩ := t
  obtain ⟨k1, -⟩ := all_self h1
  obtain ⟨n1, -⟩ := all_self h2
  have hk := kindB_args k1
  simp only [Tree.op_node, Tree.args_node] at hk
  have hop : op = 1 ∨ op = 2 ∨ op = 3 ∨ op = 4 ∨ op = 5 ∨ op = 6 ∨ op = 7 ∨ op = 8 := by
    unfold kindB at k1
    simp only [Tree.op_node] at k1
    grind
  have hj : ∀ (sep : ByteArray) (l : List ByteArray), 0 < sep.size → 2 ≤ l.length → 0 < (joinB sep l).size := fun sep l h3 h4 => by
    match l, h4 with
    | a :: b :: rest, _ =>
      have h := fold_size sep rest (a ++ sep ++ b)
      rw [ByteArray.size_append, ByteArray.size_append] at h
      show 0 < ((b :: rest).foldl (fun a b => a ++ sep ++ b) a).size
      rw [List.foldl_cons]
      omega
  have hlen : ∀ k, (textsB k ts).length = ts.length := fun k => by rw [textsB_map, List.length_map]
  rcases hop with rfl | rfl | rfl | rfl | rfl | rfl | rfl | rfl
  · simp [textB, ByteArray.size]
  · simp [textB, ByteArray.size]
  · have : vn name = true := by simpa [nameB, Tree.op_node, Tree.name_node] using n1
    unfold vn at this
    simp only [Bool.and_eq_true, decide_eq_true_eq] at this
    simpa [textB] using this.1.1
  · have e : textB (.node 4 name ts) = ⟨#[126]⟩ ++ (textsB 5 ts).headD ⟨#[]⟩ := by simp [textB]
    rw [e, ByteArray.size_append]
    exact Nat.lt_of_lt_of_le (show 0 < (⟨#[126]⟩ : ByteArray).size by decide) (Nat.le_add_right _ _)
  · have e : textB (.node 5 name ts) = joinB ⟨#[32, 38, 32]⟩ (textsB 5 ts) := by simp [textB]
    rw [e]
    exact hj _ _ (by decide) (by rw [hlen]; exact (hk.2.1 (.inl rfl)).1)
  · have e : textB (.node 6 name ts) = joinB ⟨#[32, 124, 32]⟩ (textsB 4 ts) := by simp [textB]
    rw [e]
    exact hj _ _ (by decide) (by rw [hlen]; exact (hk.2.1 (.inr rfl)).1)
  · have e : textB (.node 7 name ts) = (textsB 3 ts).headD ⟨#[]⟩ ++ ⟨#[32, 45, 62, 32]⟩ ++ (textsB 2 ts).getD 1 ⟨#[]⟩ := by simp [textB]
    have h4 : (⟨#[32, 45, 62, 32]⟩ : ByteArray).size = 4 := by decide
    rw [e, ByteArray.size_append, ByteArray.size_append, h4]
    omega
  · have e : textB (.node 8 name ts) = joinB ⟨#[32, 60, 45, 62, 32]⟩ (textsB 2 ts) := by simp [textB]
    rw [e]
    exact hj _ _ (by decide) (by rw [hlen, hk.2.2 (.inr rfl)]; omega)

/-- Format at a theory. -/
theorem th_fmt (S : BitVec 64) : fmtI (thT (vocL 4) S) = 0 ∧ 0 < (fmtT (thT (vocL 4) S)).size := by
  obtain ⟨⟨h1, h2⟩, h3⟩ := th_at (n := 4) (by omega) S
  have hv := (th_good (n := 4) (by omega) S).val
  have hnm : (thT (vocL 4) S).all nameB = true := all_imp (fun t => nodeG_name) _ h1
  have hz := textB_size _ hnm
  have e : fmtI (thT (vocL 4) S) = 0 := by unfold fmtI; rw [if_pos hv, if_neg (by omega)]
  refine ⟨e, ?_⟩
  unfold fmtT
  rw [if_pos e]
  exact textB_pos (all_imp (fun t => nodeG_kind) _ h1) hnm
end Go.Proofs.YtmkcohcpdfabbaaDoor
