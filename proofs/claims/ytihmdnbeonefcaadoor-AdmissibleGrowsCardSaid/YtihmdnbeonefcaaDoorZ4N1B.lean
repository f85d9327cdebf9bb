/- Sets of nodes as bits: the word of a set, and what the operations do to it. -/
import Derived.Test.YtihmdnbeonefcaaDoorZ4N1A

namespace Go.Proofs.YtihmdnbeonefcaaDoor
set_option linter.unusedVariables false
set_option linter.unusedSimpArgs false
open Go Go.RowKit Go.Sort

/-- The set as a word. -/
def bOf (N : Nat) (X : Nat → Bool) : BitVec 64 := (List.range N).foldl (fun s i => if X i = true then s ||| oneB i else s) 0#64
theorem bOf_succ (N : Nat) (X : Nat → Bool) : bOf (N + 1) X = if X N = true then bOf N X ||| oneB N else bOf N X := by
  unfold bOf
  rw [List.range_succ, List.foldl_append]
  rfl
theorem bOf_bit {N : Nat} (hN : N ≤ 64) (X : Nat → Bool) (j : Nat) : (bOf N X).getLsbD j = (decide (j < N) && X j) := by
  induction N with
  | zero => simp [bOf]
  | succ N ih =>
    have one_bit : (oneB N).getLsbD j = decide (N = j) := by
      rw [BitVec.getLsbD_twoPow]
      have : N < 64 := by omega
      simp [this]
    rw [bOf_succ]
    by_cases e : N = j
    · subst e
      have h1 : ¬ N < N := by omega
      cases hX : X N
      · simp [ih (by omega)]
      · rw [if_pos rfl, BitVec.getLsbD_or, ih (by omega), one_bit]; simp
    · have hd : decide (j < N + 1) = decide (j < N) := decide_eq_decide.2 (by omega)
      rw [hd]
      cases hX : X N
      · simp [ih (by omega)]
      · rw [if_pos rfl, BitVec.getLsbD_or, ih (by omega), one_bit, decide_eq_false e, Bool.or_false]
theorem bv_bits {S T : BitVec 64} (h : ∀ j, S.getLsbD j = T.getLsbD j) : S = T := BitVec.eq_of_getLsbD_eq fun i _ => h i
theorem bOf_congr {N : Nat} {X Y : Nat → Bool} (hN : N ≤ 64) (h : ∀ i, i < N → X i = Y i) : bOf N X = bOf N Y := bv_bits fun j => by
  rw [bOf_bit hN, bOf_bit hN]
  by_cases hj : j < N
  · rw [h j hj]
  · simp [hj]
theorem bOf_inj {N : Nat} {X Y : Nat → Bool} (hN : N ≤ 64) (h : bOf N X = bOf N Y) : ∀ i, i < N → X i = Y i := fun i hi => by
  have h1 := bOf_bit hN X i
  rw [h, bOf_bit hN] at h1
  simpa [hi] using h1.symm
theorem members_bOf {N : Nat} (hN : N ≤ 64) (X : Nat → Bool) : members (bOf N X) = (List.range N).filter X := by
  have gen : ∀ d, (List.range (N + d)).filter (bOf N X).getLsbD = (List.range N).filter X := by
    intro d
    induction d with
    | zero =>
      apply List.filter_congr
      intro j hj
      have hj' : j < N := List.mem_range.1 hj
      rw [bOf_bit hN, decide_eq_true hj', Bool.true_and]
    | succ d ih =>
      rw [← Nat.add_assoc, List.range_succ, List.filter_append, ih]
      have : (bOf N X).getLsbD (N + d) = false := by
        rw [bOf_bit hN, decide_eq_false (by omega), Bool.false_and]
      simp [this]
  have := gen (64 - N)
  rw [show N + (64 - N) = 64 by omega] at this
  exact this
theorem ints_bOf {N : Nat} (hN : N ≤ 64) (X : Nat → Bool) : ints (members (bOf N X)) = setL N X := by rw [members_bOf hN]; rfl
theorem bOf_or {N : Nat} (hN : N ≤ 64) (X Y : Nat → Bool) : bOf N X ||| bOf N Y = bOf N (orX X Y) := bv_bits fun j => by
  rw [BitVec.getLsbD_or, bOf_bit hN, bOf_bit hN, bOf_bit hN]
  unfold orX
  cases decide (j < N) <;> rfl
def andX (X Y : Nat → Bool) (i : Nat) : Bool := X i && Y i
def notX (X : Nat → Bool) (i : Nat) : Bool := !X i
def allX : Nat → Bool := fun _ => true
theorem bOf_and {N : Nat} (hN : N ≤ 64) (X Y : Nat → Bool) : bOf N X &&& bOf N Y = bOf N (andX X Y) := bv_bits fun j => by
  rw [BitVec.getLsbD_and, bOf_bit hN, bOf_bit hN, bOf_bit hN]
  unfold andX
  cases decide (j < N) <;> rfl
theorem bOf_andNot {N : Nat} (hN : N ≤ 64) (X Y : Nat → Bool) : bOf N X &&& ~~~(bOf N Y) = bOf N (andX X (notX Y)) := bv_bits fun j => by
  rw [BitVec.getLsbD_and, BitVec.getLsbD_not, bOf_bit hN, bOf_bit hN, bOf_bit hN]
  unfold andX notX
  by_cases hj : j < N
  · have : j < 64 := by omega
    simp [hj, this]
  · simp [hj]
theorem bOf_all {N : Nat} (hN : N ≤ 64) : (bOf N allX).toNat = 2 ^ N - 1 := by
  have e : bOf N allX = BitVec.ofNat 64 (2 ^ N - 1) := bv_bits fun j => by
    rw [bOf_bit hN, BitVec.getLsbD_ofNat, Nat.testBit_two_pow_sub_one]
    by_cases hj : j < N
    · have : j < 64 := by omega
      simp [hj, this, allX]
    · simp [hj]
  rw [e, BitVec.toNat_ofNat]
  have h1 : 2 ^ N ≤ 2 ^ 64 := Nat.pow_le_pow_right (by decide) hN
  have h2 : 0 < 2 ^ N := Nat.two_pow_pos N
  omega
theorem bOf_zero_iff {N : Nat} (hN : N ≤ 64) (X : Nat → Bool) : bOf N X = 0#64 ↔ ∀ i, i < N → X i = false := by
  constructor
  · intro h i hi
    have := bOf_bit hN X i
    rw [h] at this
    simpa [hi] using this.symm
  · intro h
    refine bv_bits fun j => ?_
    rw [bOf_bit hN]
    by_cases hj : j < N
    · simp [h j hj]
    · simp [hj]

instance (ps : List (Int × Int)) (k i : Nat) : Decidable (At ps k i) := inferInstanceAs (Decidable (((k : Int), (i : Int)) ∈ ps))
/-- What the nodes of a list attack. -/
def attF (ps : List (Int × Int)) (l : List Nat) : BitVec 64 := l.foldl (fun s k => s ||| attB ps k) 0#64
theorem attF_snoc (ps : List (Int × Int)) (l : List Nat) (k : Nat) : attF ps (l ++ [k]) = attF ps l ||| attB ps k := by
  unfold attF
  rw [List.foldl_append]
  rfl
theorem attF_bit (ps : List (Int × Int)) (h : ∀ p ∈ ps, 0 ≤ p.2 ∧ p.2 < 64) (l : List Nat) (j : Nat) : (attF ps l).getLsbD j = l.any fun k => decide (At ps k j) := by
  have gen : ∀ (l : List Nat) (s : BitVec 64), (l.foldl (fun s k => s ||| attB ps k) s).getLsbD j = (s.getLsbD j || l.any fun k => decide (At ps k j)) := by
    intro l
    induction l with
    | nil => intro s; simp
    | cons x r ih =>
      intro s
      rw [List.foldl_cons, ih, BitVec.getLsbD_or, attB_bit ps x j h, List.any_cons, Bool.or_assoc]
      rfl
  have := gen l 0#64
  rw [attF, this]
  simp
theorem attF_bOf {N : Nat} {ps : List (Int × Int)} (hok : GOk (N : Int) ps) (X : Nat → Bool) : attF ps (members (bOf N X)) = bOf N (hitX ps X) := by
  have hN : N ≤ 64 := by have := hok.n40; omega
  refine bv_bits fun j => ?_
  rw [attF_bit ps (fun p hp => ⟨(hok.ix p hp).2.1, by have := (hok.ix p hp).2.2; have := hok.n40; omega⟩), bOf_bit hN, members_bOf hN]
  rw [Bool.eq_iff_iff, List.any_eq_true, Bool.and_eq_true, decide_eq_true_eq, hitX_iff hok.ix]
  constructor
  · rintro ⟨k, hk, ha⟩
    have ha := of_decide_eq_true ha
    exact ⟨(at_lt hok.ix ha).2, k, ha, (List.mem_filter.1 hk).2⟩
  · rintro ⟨hj, k, ha, hx⟩
    exact ⟨k, List.mem_filter.2 ⟨List.mem_range.2 (at_lt hok.ix ha).1, hx⟩, decide_eq_true ha⟩
/-- What the program computes is what the set defends. -/
theorem df_bits {N : Nat} {ps : List (Int × Int)} (hok : GOk (N : Int) ps) (X : Nat → Bool) : bOf N (andX allX (notX (hitX ps (andX allX (notX (hitX ps X)))))) = bOf N (dfX ps X) := by
  have hN : N ≤ 64 := by have := hok.n40; omega
  refine bOf_congr hN fun i hi => ?_
  show (true && !(hitX ps _ i)) = _
  rw [Bool.true_and, Bool.eq_iff_iff, Bool.not_eq_true', Bool.eq_false_iff, dfX_iff hok.ix, Ne, hitX_iff hok.ix]
  constructor
  · intro h k hk
    apply Classical.byContradiction
    intro hn
    refine h ⟨k, hk, ?_⟩
    show (true && !(hitX ps X k)) = true
    rw [Bool.true_and, Bool.not_eq_true', Bool.eq_false_iff, Ne, hitX_iff hok.ix]
    exact hn
  · rintro h ⟨k, hk, hx⟩
    have hx : (true && !(hitX ps X k)) = true := hx
    rw [Bool.true_and, Bool.not_eq_true', Bool.eq_false_iff, Ne, hitX_iff hok.ix] at hx
    exact hx (h k hk)
theorem cf_bits {N : Nat} {ps : List (Int × Int)} (hok : GOk (N : Int) ps) (X : Nat → Bool) : decide (bOf N (andX (hitX ps X) X) = 0#64) = cfX ps X := by
  have hN : N ≤ 64 := by have := hok.n40; omega
  rw [Bool.eq_iff_iff, decide_eq_true_eq, bOf_zero_iff hN, cfX_iff hok.ix]
  constructor
  · intro h k i hk h1 h2
    have := h i (at_lt hok.ix hk).2
    unfold andX at this
    rw [(hitX_iff hok.ix).2 ⟨k, hk, h1⟩, h2] at this
    cases this
  · intro h i hi
    rw [Bool.eq_false_iff]
    intro hx
    unfold andX at hx
    rw [Bool.and_eq_true, hitX_iff hok.ix] at hx
    obtain ⟨⟨k, hk, h1⟩, h2⟩ := hx
    exact h k i hk h1 h2
theorem sub_bits {N : Nat} (hN : N ≤ 64) (X Y : Nat → Bool) : decide (bOf N (andX X (notX Y)) = 0#64) = subX N X Y := by
  rw [Bool.eq_iff_iff, decide_eq_true_eq, bOf_zero_iff hN, subX_iff]
  constructor
  · intro h i hi hx
    have := h i hi
    unfold andX notX at this
    rw [hx] at this
    simpa using this
  · intro h i hi
    unfold andX notX
    cases hx : X i
    · rfl
    · rw [h i hi hx]; rfl
theorem eq_bits {N : Nat} (hN : N ≤ 64) (X Y : Nat → Bool) : decide (bOf N Y = bOf N X) = (subX N X Y && subX N Y X) := by
  rw [Bool.eq_iff_iff, decide_eq_true_eq, Bool.and_eq_true, subX_iff, subX_iff]
  constructor
  · intro h
    have := bOf_inj hN h
    exact ⟨fun i hi hx => by rw [this i hi]; exact hx, fun i hi hx => by rw [← this i hi]; exact hx⟩
  · rintro ⟨h1, h2⟩
    exact bOf_congr hN fun i hi => Bool.eq_iff_iff.2 ⟨h2 i hi, h1 i hi⟩
theorem stab_bits {N : Nat} {ps : List (Int × Int)} (hok : GOk (N : Int) ps) (X : Nat → Bool) : decide (bOf N (hitX ps X) = bOf N (andX allX (notX X))) = stabX N ps X := by
  have hN : N ≤ 64 := by have := hok.n40; omega
  rw [Bool.eq_iff_iff, decide_eq_true_eq, stabX_iff hok.ix]
  constructor
  · intro h
    have := bOf_inj hN h
    have key : ∀ i, i < N → hitX ps X i = !X i := fun i hi => by rw [this i hi]; show (true && !X i) = _; rw [Bool.true_and]
    refine ⟨(cfX_iff hok.ix).2 fun k i hk h1 h2 => ?_, fun i hi => ?_⟩
    · have := key i (at_lt hok.ix hk).2
      rw [(hitX_iff hok.ix).2 ⟨k, hk, h1⟩, h2] at this
      cases this
    · cases hx : X i
      · right
        have := key i hi
        rw [hx] at this
        exact (hitX_iff hok.ix).1 this
      · exact .inl rfl
  · rintro ⟨h1, h2⟩
    refine bOf_congr hN fun i hi => ?_
    show _ = (true && !X i)
    rw [Bool.true_and]
    cases hx : X i
    · rcases h2 i hi with g | g
      · rw [hx] at g; cases g
      · rw [(hitX_iff hok.ix).2 g]; rfl
    · rw [Bool.not_true, Bool.eq_false_iff]
      intro hh
      obtain ⟨k, hk, g⟩ := (hitX_iff hok.ix).1 hh
      exact (cfX_iff hok.ix).1 h1 k i hk g hx
end Go.Proofs.YtihmdnbeonefcaaDoor
