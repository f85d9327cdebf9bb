/- Sets of nodes as functions: hits, defence, freedom from conflicts, and what follows from them. Sets of nodes as bits: the word of a set, and what the operations do to it. Is a list a set of nodes? The reference's and the program's answer. -/
import Derived.Test.YtfiaoibfejginaaDoorZ4A
import Derived.Test.YtfiaoibfejginaaDoorG0V
import Derived.Test.YtfiaoibfejginaaDoorG1D

namespace Go.Proofs.YtfiaoibfejginaaDoor
set_option linter.unusedVariables false
set_option linter.unusedSimpArgs false
open Go Go.RowKit Go.Sort

/-- Is the node in the list? -/
def memB (x : List Int) (i : Nat) : Bool := decide ((i : Int) ∈ x)
/-- A set as a list. -/
def setL (N : Nat) (X : Nat → Bool) : List Int := ints ((List.range N).filter X)
/-- Is the list a set of nodes? -/
def setB (N : Nat) (x : List Int) : Bool := decide (x = setL N (memB x))
/-- A node of the set attacks i. -/
def hitX (ps : List (Int × Int)) (X : Nat → Bool) (i : Nat) : Bool := ps.any fun p => p.2 == (i : Int) && X p.1.toNat
/-- The set defends i. -/
def dfX (ps : List (Int × Int)) (X : Nat → Bool) (i : Nat) : Bool := ps.all fun p => !(p.2 == (i : Int)) || hitX ps X p.1.toNat
/-- No conflict in the set. -/
def cfX (ps : List (Int × Int)) (X : Nat → Bool) : Bool := !(ps.any fun p => X p.1.toNat && X p.2.toNat)
/-- All nodes of the one are in the other. -/
def subX (N : Nat) (X Y : Nat → Bool) : Bool := (List.range N).all fun i => !X i || Y i
def admX (N : Nat) (ps : List (Int × Int)) (X : Nat → Bool) : Bool := cfX ps X && subX N X (dfX ps X)
def compX (N : Nat) (ps : List (Int × Int)) (X : Nat → Bool) : Bool := cfX ps X && (subX N X (dfX ps X) && subX N (dfX ps X) X)
def orX (X Y : Nat → Bool) (i : Nat) : Bool := X i || Y i
def stabX (N : Nat) (ps : List (Int × Int)) (X : Nat → Bool) : Bool := cfX ps X && subX N (fun _ => true) (orX X (hitX ps X))

theorem mem_setL {N : Nat} {X : Nat → Bool} {z : Int} : z ∈ setL N X ↔ ∃ i : Nat, i < N ∧ X i = true ∧ z = (i : Int) := by
  unfold setL ints
  rw [List.mem_map]
  constructor
  · rintro ⟨i, hi, rfl⟩
    obtain ⟨h1, h2⟩ := List.mem_filter.1 hi
    exact ⟨i, List.mem_range.1 h1, h2, rfl⟩
  · rintro ⟨i, h1, h2, rfl⟩
    exact ⟨i, List.mem_filter.2 ⟨List.mem_range.2 h1, h2⟩, rfl⟩
theorem memB_setL {N : Nat} {X : Nat → Bool} (i : Nat) : memB (setL N X) i = (decide (i < N) && X i) := by
  unfold memB
  rw [Bool.eq_iff_iff, decide_eq_true_eq, mem_setL, Bool.and_eq_true, decide_eq_true_eq]
  constructor
  · rintro ⟨j, h1, h2, h3⟩
    obtain rfl : i = j := Int.ofNat.inj h3
    exact ⟨h1, h2⟩
  · exact fun ⟨h1, h2⟩ => ⟨i, h1, h2, rfl⟩
theorem setL_congr {N : Nat} {X Y : Nat → Bool} (h : ∀ i, i < N → X i = Y i) : setL N X = setL N Y := by
  unfold setL
  rw [List.filter_congr fun i hi => h i (List.mem_range.1 hi)]
theorem setL_inj {N : Nat} {X Y : Nat → Bool} (h : setL N X = setL N Y) : ∀ i, i < N → X i = Y i := fun i hi => by
  have h1 := memB_setL (N := N) (X := X) i
  rw [h, memB_setL] at h1
  simpa [hi] using h1.symm
theorem setL_len (N : Nat) (X : Nat → Bool) : (setL N X).length ≤ N := by
  unfold setL
  rw [ints_len]
  have := List.length_filter_le X (List.range N)
  rwa [List.length_range] at this
theorem setB_setL (N : Nat) (X : Nat → Bool) : setB N (setL N X) = true := by
  unfold setB
  rw [decide_eq_true_eq]
  exact setL_congr fun i hi => by rw [memB_setL]; simp [hi]
theorem setB_eq {N : Nat} {x : List Int} (h : setB N x = true) : x = setL N (memB x) := of_decide_eq_true h
theorem setB_lt {N : Nat} {x : List Int} (h : setB N x = true) {i : Nat} (hi : memB x i = true) : i < N := by
  rw [setB_eq h, memB_setL, Bool.and_eq_true, decide_eq_true_eq] at hi
  exact hi.1
theorem setB_len {N : Nat} {x : List Int} (h : setB N x = true) : x.length ≤ N := by
  rw [setB_eq h]; exact setL_len N _
theorem subX_iff {N : Nat} {X Y : Nat → Bool} : subX N X Y = true ↔ ∀ i, i < N → X i = true → Y i = true := by
  unfold subX
  rw [List.all_eq_true]
  constructor
  · intro h i hi hx
    have := h i (List.mem_range.2 hi)
    simpa [hx] using this
  · intro h i hi
    have := h i (List.mem_range.1 hi)
    cases hx : X i
    · rfl
    · simpa using this hx

section
variable {N : Nat} {ps : List (Int × Int)} (hix : ∀ p ∈ ps, (0 ≤ p.1 ∧ p.1 < (N : Int)) ∧ (0 ≤ p.2 ∧ p.2 < (N : Int)))
include hix
theorem hitX_iff {X : Nat → Bool} {i : Nat} : hitX ps X i = true ↔ ∃ k, At ps k i ∧ X k = true := by
  unfold hitX At
  rw [List.any_eq_true]
  constructor
  · rintro ⟨p, hp, hq⟩
    rw [Bool.and_eq_true, beq_iff_eq] at hq
    have := hix p hp
    refine ⟨p.1.toNat, ?_, hq.2⟩
    have e : ((p.1.toNat : Int), (i : Int)) = p := Prod.ext (by simp only; omega) hq.1.symm
    rw [e]; exact hp
  · rintro ⟨k, hk, hx⟩
    refine ⟨_, hk, ?_⟩
    rw [Bool.and_eq_true, beq_iff_eq]
    exact ⟨rfl, by rw [Int.toNat_natCast]; exact hx⟩
theorem dfX_iff {X : Nat → Bool} {i : Nat} : dfX ps X i = true ↔ ∀ k, At ps k i → ∃ m, At ps m k ∧ X m = true := by
  unfold dfX
  rw [List.all_eq_true]
  constructor
  · intro h k hk
    have := h _ hk
    simp only [beq_self_eq_true, Bool.not_true, Bool.false_or, Int.toNat_natCast] at this
    exact (hitX_iff hix).1 this
  · intro h p hp
    by_cases e : p.2 = (i : Int)
    · have hr := hix p hp
      have e2 : ((p.1.toNat : Int), (i : Int)) = p := Prod.ext (by simp only; omega) e.symm
      have := (hitX_iff hix).2 (h p.1.toNat (by unfold At; rw [e2]; exact hp))
      rw [this, Bool.or_true]
    · rw [beq_eq_false_iff_ne.2 e]; rfl
theorem cfX_iff {X : Nat → Bool} : cfX ps X = true ↔ ∀ k i, At ps k i → X k = true → X i = true → False := by
  unfold cfX At
  rw [Bool.not_eq_true', List.any_eq_false]
  constructor
  · intro h k i hk h1 h2
    have := h _ hk
    simp [h1, h2] at this
  · intro h p hp hq
    rw [Bool.and_eq_true] at hq
    have hr := hix p hp
    have e2 : ((p.1.toNat : Int), (p.2.toNat : Int)) = p := Prod.ext (by simp only; omega) (by simp only; omega)
    exact h p.1.toNat p.2.toNat (by rw [e2]; exact hp) hq.1 hq.2
theorem dfX_mono {X Y : Nat → Bool} (h : ∀ i, i < N → X i = true → Y i = true) {i : Nat} (hd : dfX ps X i = true) : dfX ps Y i = true := by
  rw [dfX_iff hix] at *
  intro k hk
  obtain ⟨m, hm, hx⟩ := hd k hk
  exact ⟨m, hm, h m (at_lt hix hm).1 hx⟩
theorem hitX_congr {X Y : Nat → Bool} (h : ∀ i, i < N → X i = Y i) (i : Nat) : hitX ps X i = hitX ps Y i := by
  rw [Bool.eq_iff_iff, hitX_iff hix, hitX_iff hix]
  exact ⟨fun ⟨k, hk, hx⟩ => ⟨k, hk, by rw [← h k (at_lt hix hk).1]; exact hx⟩, fun ⟨k, hk, hx⟩ => ⟨k, hk, by rw [h k (at_lt hix hk).1]; exact hx⟩⟩
theorem dfX_congr {X Y : Nat → Bool} (h : ∀ i, i < N → X i = Y i) (i : Nat) : dfX ps X i = dfX ps Y i := by
  rw [Bool.eq_iff_iff]
  exact ⟨dfX_mono hix fun i hi hx => by rw [← h i hi]; exact hx, dfX_mono hix fun i hi hx => by rw [h i hi]; exact hx⟩
theorem cfX_sub {X Y : Nat → Bool} (h : ∀ i, i < N → X i = true → Y i = true) (hc : cfX ps Y = true) : cfX ps X = true := by
  rw [cfX_iff hix] at *
  exact fun k i hk h1 h2 => hc k i hk (h k (at_lt hix hk).1 h1) (h i (at_lt hix hk).2 h2)
theorem cfX_congr {X Y : Nat → Bool} (h : ∀ i, i < N → X i = Y i) : cfX ps X = cfX ps Y := by
  rw [Bool.eq_iff_iff]
  exact ⟨cfX_sub hix fun i hi hx => by rw [h i hi]; exact hx, cfX_sub hix fun i hi hx => by rw [← h i hi]; exact hx⟩
omit hix in
theorem admX_iff {X : Nat → Bool} : admX N ps X = true ↔ cfX ps X = true ∧ ∀ i, i < N → X i = true → dfX ps X i = true := by
  unfold admX
  rw [Bool.and_eq_true, subX_iff]
omit hix in
theorem compX_iff {X : Nat → Bool} : compX N ps X = true ↔ cfX ps X = true ∧ (∀ i, i < N → X i = true → dfX ps X i = true) ∧ ∀ i, i < N → dfX ps X i = true → X i = true := by
  unfold compX
  rw [Bool.and_eq_true, Bool.and_eq_true, subX_iff, subX_iff]
theorem stabX_iff {X : Nat → Bool} : stabX N ps X = true ↔ cfX ps X = true ∧ ∀ i, i < N → X i = true ∨ ∃ k, At ps k i ∧ X k = true := by
  unfold stabX
  rw [Bool.and_eq_true, subX_iff]
  constructor
  · refine fun ⟨h1, h2⟩ => ⟨h1, fun i hi => ?_⟩
    have := h2 i hi rfl
    unfold orX at this
    rw [Bool.or_eq_true] at this
    rcases this with h | h
    · exact .inl h
    · exact .inr ((hitX_iff hix).1 h)
  · refine fun ⟨h1, h2⟩ => ⟨h1, fun i hi _ => ?_⟩
    unfold orX
    rw [Bool.or_eq_true]
    rcases h2 i hi with h | h
    · exact .inl h
    · exact .inr ((hitX_iff hix).2 h)
/-- The fundamental lemma: what an admissible set defends is free of conflicts. -/
theorem step_cf {X : Nat → Bool} (hc : cfX ps X = true) (hd : ∀ i, i < N → X i = true → dfX ps X i = true) : cfX ps (dfX ps X) = true := by
  rw [cfX_iff hix]
  intro k i hk h1 h2
  obtain ⟨m, hm, hx⟩ := (dfX_iff hix).1 h2 k hk
  obtain ⟨n, hn, hy⟩ := (dfX_iff hix).1 h1 m hm
  exact (cfX_iff hix).1 hc n m hn hy hx
theorem stab_comp {X : Nat → Bool} (h : stabX N ps X = true) : compX N ps X = true := by
  obtain ⟨h1, h2⟩ := (stabX_iff hix).1 h
  have hc := (cfX_iff hix).1 h1
  refine compX_iff.2 ⟨h1, fun i hi hx => (dfX_iff hix).2 fun k hk => ?_, fun i hi hd => ?_⟩
  · rcases h2 k (at_lt hix hk).1 with g | g
    · exact absurd hx fun hx => hc k i hk g hx
    · exact g
  · rcases h2 i hi with g | ⟨k, hk, g⟩
    · exact g
    · obtain ⟨m, hm, gm⟩ := (dfX_iff hix).1 hd k hk
      exact absurd g fun g => hc m k hm gm g
/-- What an admissible set defends may be added. -/
theorem adm_more {X Y : Nat → Bool} (h : admX N ps X = true) (h1 : ∀ i, i < N → X i = true → Y i = true) (h2 : ∀ i, i < N → Y i = true → dfX ps X i = true) : admX N ps Y = true := by
  obtain ⟨hc, hd⟩ := admX_iff.1 h
  exact admX_iff.2 ⟨cfX_sub hix h2 (step_cf hix hc hd), fun i hi hy => dfX_mono hix h1 (h2 i hi hy)⟩
theorem adm_union {X Y : Nat → Bool} (h : admX N ps X = true) (h' : admX N ps Y = true) (hc : cfX ps (orX X Y) = true) : admX N ps (orX X Y) = true := by
  refine admX_iff.2 ⟨hc, fun i hi hx => ?_⟩
  unfold orX at hx
  rw [Bool.or_eq_true] at hx
  rcases hx with hx | hx
  · exact dfX_mono hix (fun i _ hx => by unfold orX; rw [hx]; rfl) ((admX_iff.1 h).2 i hi hx)
  · exact dfX_mono hix (fun i _ hx => by unfold orX; rw [hx, Bool.or_true]) ((admX_iff.1 h').2 i hi hx)
end

/-- The least set that holds X and all that it defends, of an admissible X. -/
structure GrowR (N : Nat) (ps : List (Int × Int)) (X Z : Nat → Bool) : Prop where
  sup : ∀ i, i < N → X i = true → Z i = true
  cf : cfX ps Z = true
  def_ : ∀ i, i < N → Z i = true → dfX ps Z i = true
  all_ : ∀ i, i < N → dfX ps Z i = true → Z i = true
  least : ∀ Y : Nat → Bool, (∀ i, i < N → X i = true → Y i = true) → (∀ i, i < N → dfX ps Y i = true → Y i = true) → ∀ i, i < N → Z i = true → Y i = true
/-- The greatest set within X that defends all that it holds. -/
structure ShrinkR (N : Nat) (ps : List (Int × Int)) (X Z : Nat → Bool) : Prop where
  sub : ∀ i, i < N → Z i = true → X i = true
  def_ : ∀ i, i < N → Z i = true → dfX ps Z i = true
  most : ∀ Y : Nat → Bool, (∀ i, i < N → Y i = true → X i = true) → (∀ i, i < N → Y i = true → dfX ps Y i = true) → ∀ i, i < N → Y i = true → Z i = true
theorem GrowR.uniq {N : Nat} {ps : List (Int × Int)} {X Z Z' : Nat → Bool} (h : GrowR N ps X Z) (h' : GrowR N ps X Z') : setL N Z = setL N Z' := setL_congr fun i hi => by
  rw [Bool.eq_iff_iff]
  exact ⟨h.least Z' h'.sup h'.all_ i hi, h'.least Z h.sup h.all_ i hi⟩
theorem ShrinkR.uniq {N : Nat} {ps : List (Int × Int)} {X Z Z' : Nat → Bool} (h : ShrinkR N ps X Z) (h' : ShrinkR N ps X Z') : setL N Z = setL N Z' := setL_congr fun i hi => by
  rw [Bool.eq_iff_iff]
  exact ⟨h'.most Z h.sub h.def_ i hi, h.most Z' h'.sub h'.def_ i hi⟩
/-- On the way up. -/
structure GrowI (N : Nat) (ps : List (Int × Int)) (X Z : Nat → Bool) : Prop where
  sup : ∀ i, i < N → X i = true → Z i = true
  cf : cfX ps Z = true
  def_ : ∀ i, i < N → Z i = true → dfX ps Z i = true
  least : ∀ Y : Nat → Bool, (∀ i, i < N → X i = true → Y i = true) → (∀ i, i < N → dfX ps Y i = true → Y i = true) → ∀ i, i < N → Z i = true → Y i = true
structure ShrinkI (N : Nat) (ps : List (Int × Int)) (X Z : Nat → Bool) : Prop where
  sub : ∀ i, i < N → Z i = true → X i = true
  most : ∀ Y : Nat → Bool, (∀ i, i < N → Y i = true → X i = true) → (∀ i, i < N → Y i = true → dfX ps Y i = true) → ∀ i, i < N → Y i = true → Z i = true
theorem GrowI.start {N : Nat} {ps : List (Int × Int)} {X : Nat → Bool} (h : admX N ps X = true) : GrowI N ps X X :=
  ⟨fun _ _ h => h, (admX_iff.1 h).1, (admX_iff.1 h).2, fun _ h _ => h⟩
theorem ShrinkI.start {N : Nat} {ps : List (Int × Int)} {X : Nat → Bool} : ShrinkI N ps X X := ⟨fun _ _ h => h, fun _ h _ => h⟩
def cutX (ps : List (Int × Int)) (X : Nat → Bool) (i : Nat) : Bool := X i && dfX ps X i
section
variable {N : Nat} {ps : List (Int × Int)} (hix : ∀ p ∈ ps, (0 ≤ p.1 ∧ p.1 < (N : Int)) ∧ (0 ≤ p.2 ∧ p.2 < (N : Int)))
include hix
theorem GrowI.next {X Z : Nat → Bool} (h : GrowI N ps X Z) : GrowI N ps X (dfX ps Z) :=
  ⟨fun i hi hx => h.def_ i hi (h.sup i hi hx), step_cf hix h.cf h.def_, fun i hi hd => dfX_mono hix h.def_ hd,
    fun Y h1 h2 i hi hd => h2 i hi (dfX_mono hix (h.least Y h1 h2) hd)⟩
theorem ShrinkI.next {X Z : Nat → Bool} (h : ShrinkI N ps X Z) : ShrinkI N ps X (cutX ps Z) :=
  ⟨fun i hi hx => h.sub i hi (by unfold cutX at hx; rw [Bool.and_eq_true] at hx; exact hx.1), fun Y h1 h2 i hi hy => by
    unfold cutX
    rw [Bool.and_eq_true]
    exact ⟨h.most Y h1 h2 i hi hy, dfX_mono hix (h.most Y h1 h2) (h2 i hi hy)⟩⟩
omit hix in
theorem GrowI.fin {X Z : Nat → Bool} (h : GrowI N ps X Z) (hf : ∀ i, i < N → dfX ps Z i = Z i) : GrowR N ps X Z :=
  ⟨h.sup, h.cf, h.def_, fun i hi hd => by rw [← hf i hi]; exact hd, h.least⟩
omit hix in
theorem ShrinkI.fin {X Z : Nat → Bool} (h : ShrinkI N ps X Z) (hf : ∀ i, i < N → cutX ps Z i = Z i) : ShrinkR N ps X Z :=
  ⟨h.sub, fun i hi hz => by have := hf i hi; unfold cutX at this; rw [hz] at this; simpa using this, h.most⟩
end
/-- Sizes. -/
def sizeX (N : Nat) (X : Nat → Bool) : Nat := ((List.range N).filter X).length
theorem sizeX_le (N : Nat) (X : Nat → Bool) : sizeX N X ≤ N := by
  have := List.length_filter_le X (List.range N)
  rwa [List.length_range] at this
theorem setL_size (N : Nat) (X : Nat → Bool) : (setL N X).length = sizeX N X := ints_len _
theorem sizeX_mono {X Y : Nat → Bool} : ∀ {N : Nat}, (∀ i, i < N → X i = true → Y i = true) → sizeX N X ≤ sizeX N Y
  | 0, _ => Nat.le_refl _
  | N + 1, h => by
    have ih := sizeX_mono (N := N) fun i hi => h i (by omega)
    have hN := h N (by omega)
    unfold sizeX at *
    rw [List.range_succ, List.filter_append, List.filter_append, List.length_append, List.length_append]
    cases hX : X N
    · simp only [List.filter_cons, hX, List.filter_nil]; simp; omega
    · simp only [List.filter_cons, hX, hN hX, List.filter_nil]; simp; omega
theorem sizeX_eq {X Y : Nat → Bool} : ∀ {N : Nat}, (∀ i, i < N → X i = true → Y i = true) → sizeX N Y ≤ sizeX N X → ∀ i, i < N → X i = Y i
  | 0, _, _, i, hi => by omega
  | N + 1, h, hs, i, hi => by
    have ih := sizeX_mono (N := N) fun i hi => h i (by omega)
    have hN := h N (by omega)
    have e : ∀ X : Nat → Bool, sizeX (N + 1) X = sizeX N X + if X N = true then 1 else 0 := fun X => by
      unfold sizeX
      rw [List.range_succ, List.filter_append, List.length_append]
      cases hX : X N <;> simp [hX]
    rw [e, e] at hs
    have hxy : X N = Y N := by
      cases hX : X N
      · rw [hX] at hs
        cases hY : Y N
        · rfl
        · rw [hY] at hs; simp at hs; omega
      · rw [hN hX]
    rw [hxy] at hs
    by_cases ei : i = N
    · subst ei; exact hxy
    · exact sizeX_eq (N := N) (fun i hi => h i (by omega)) (by omega) i (by omega)
theorem sizeX_lt {N : Nat} {X Y : Nat → Bool} (h : ∀ i, i < N → X i = true → Y i = true) (hne : setL N X ≠ setL N Y) : sizeX N X < sizeX N Y := by
  rcases Nat.lt_or_ge (sizeX N X) (sizeX N Y) with h1 | h1
  · exact h1
  · exact absurd (setL_congr (sizeX_eq h h1)) hne
end Go.Proofs.YtfiaoibfejginaaDoor

namespace Go.Proofs.YtfiaoibfejginaaDoor
set_option linter.unusedVariables false
set_option linter.unusedSimpArgs false
open Go Go.RowKit Go.Sort

/-- The set as a word. -/
def bOf (N : Nat) (X : Nat → Bool) : BitVec 64 := (List.range N).foldl (fun s i => if X i = true then s ||| oneB i else s) 0#64
theorem bOf_succ (N : Nat) (X : Nat → Bool) : bOf (N + 1) X = if X N = true then bOf N X ||| oneB N else bOf N X := by
  unfold bOf
  rw [List.range_succ, List.foldl_append]
  rfl
theorem bOf_bit {N : Nat} (hN : N ≤ 64) (X : Nat → Bool) (j : Nat) : (bOf N X).getLsbD j = (decide (j < N) && X j) := by
  induction N with
  | zero => simp [bOf]
  | succ N ih =>
    have one_bit : (oneB N).getLsbD j = decide (N = j) := by
      rw [BitVec.getLsbD_twoPow]
      have : N < 64 := by omega
      simp [this]
    rw [bOf_succ]
    by_cases e : N = j
    · subst e
      have h1 : ¬ N < N := by omega
      cases hX : X N
      · simp [ih (by omega)]
      · rw [if_pos rfl, BitVec.getLsbD_or, ih (by omega), one_bit]; simp
    · have hd : decide (j < N + 1) = decide (j < N) := decide_eq_decide.2 (by omega)
      rw [hd]
      cases hX : X N
      · simp [ih (by omega)]
      · rw [if_pos rfl, BitVec.getLsbD_or, ih (by omega), one_bit, decide_eq_false e, Bool.or_false]
theorem bv_bits {S T : BitVec 64} (h : ∀ j, S.getLsbD j = T.getLsbD j) : S = T := BitVec.eq_of_getLsbD_eq fun i _ => h i
theorem bOf_congr {N : Nat} {X Y : Nat → Bool} (hN : N ≤ 64) (h : ∀ i, i < N → X i = Y i) : bOf N X = bOf N Y := bv_bits fun j => by
  rw [bOf_bit hN, bOf_bit hN]
  by_cases hj : j < N
  · rw [h j hj]
  · simp [hj]
theorem bOf_inj {N : Nat} {X Y : Nat → Bool} (hN : N ≤ 64) (h : bOf N X = bOf N Y) : ∀ i, i < N → X i = Y i := fun i hi => by
  have h1 := bOf_bit hN X i
  rw [h, bOf_bit hN] at h1
  simpa [hi] using h1.symm
theorem members_bOf {N : Nat} (hN : N ≤ 64) (X : Nat → Bool) : members (bOf N X) = (List.range N).filter X := by
  have gen : ∀ d, (List.range (N + d)).filter (bOf N X).getLsbD = (List.range N).filter X := by
    intro d
    induction d with
    | zero =>
      apply List.filter_congr
      intro j hj
      have hj' : j < N := List.mem_range.1 hj
      rw [bOf_bit hN, decide_eq_true hj', Bool.true_and]
    | succ d ih =>
      rw [← Nat.add_assoc, List.range_succ, List.filter_append, ih]
      have : (bOf N X).getLsbD (N + d) = false := by
        rw [bOf_bit hN, decide_eq_false (by omega), Bool.false_and]
      simp [this]
  have := gen (64 - N)
  rw [show N + (64 - N) = 64 by omega] at this
  exact this
theorem ints_bOf {N : Nat} (hN : N ≤ 64) (X : Nat → Bool) : ints (members (bOf N X)) = setL N X := by rw [members_bOf hN]; rfl
theorem bOf_or {N : Nat} (hN : N ≤ 64) (X Y : Nat → Bool) : bOf N X ||| bOf N Y = bOf N (orX X Y) := bv_bits fun j => by
  rw [BitVec.getLsbD_or, bOf_bit hN, bOf_bit hN, bOf_bit hN]
  unfold orX
  cases decide (j < N) <;> rfl
def andX (X Y : Nat → Bool) (i : Nat) : Bool := X i && Y i
def notX (X : Nat → Bool) (i : Nat) : Bool := !X i
def allX : Nat → Bool := fun _ => true
theorem bOf_and {N : Nat} (hN : N ≤ 64) (X Y : Nat → Bool) : bOf N X &&& bOf N Y = bOf N (andX X Y) := bv_bits fun j => by
  rw [BitVec.getLsbD_and, bOf_bit hN, bOf_bit hN, bOf_bit hN]
  unfold andX
  cases decide (j < N) <;> rfl
theorem bOf_andNot {N : Nat} (hN : N ≤ 64) (X Y : Nat → Bool) : bOf N X &&& ~~~(bOf N Y) = bOf N (andX X (notX Y)) := bv_bits fun j => by
  rw [BitVec.getLsbD_and, BitVec.getLsbD_not, bOf_bit hN, bOf_bit hN, bOf_bit hN]
  unfold andX notX
  by_cases hj : j < N
  · have : j < 64 := by omega
    simp [hj, this]
  · simp [hj]
theorem bOf_all {N : Nat} (hN : N ≤ 64) : (bOf N allX).toNat = 2 ^ N - 1 := by
  have e : bOf N allX = BitVec.ofNat 64 (2 ^ N - 1) := bv_bits fun j => by
    rw [bOf_bit hN, BitVec.getLsbD_ofNat, Nat.testBit_two_pow_sub_one]
    by_cases hj : j < N
    · have : j < 64 := by omega
      simp [hj, this, allX]
    · simp [hj]
  rw [e, BitVec.toNat_ofNat]
  have h1 : 2 ^ N ≤ 2 ^ 64 := Nat.pow_le_pow_right (by decide) hN
  have h2 : 0 < 2 ^ N := Nat.two_pow_pos N
  omega
theorem bOf_zero_iff {N : Nat} (hN : N ≤ 64) (X : Nat → Bool) : bOf N X = 0#64 ↔ ∀ i, i < N → X i = false := by
  constructor
  · intro h i hi
    have := bOf_bit hN X i
    rw [h] at this
    simpa [hi] using this.symm
  · intro h
    refine bv_bits fun j => ?_
    rw [bOf_bit hN]
    by_cases hj : j < N
    · simp [h j hj]
    · simp [hj]

instance (ps : List (Int × Int)) (k i : Nat) : Decidable (At ps k i) := inferInstanceAs (Decidable (((k : Int), (i : Int)) ∈ ps))
/-- What the nodes of a list attack. -/
def attF (ps : List (Int × Int)) (l : List Nat) : BitVec 64 := l.foldl (fun s k => s ||| attB ps k) 0#64
theorem attF_snoc (ps : List (Int × Int)) (l : List Nat) (k : Nat) : attF ps (l ++ [k]) = attF ps l ||| attB ps k := by
  unfold attF
  rw [List.foldl_append]
  rfl
theorem attF_bit (ps : List (Int × Int)) (h : ∀ p ∈ ps, 0 ≤ p.2 ∧ p.2 < 64) (l : List Nat) (j : Nat) : (attF ps l).getLsbD j = l.any fun k => decide (At ps k j) := by
  have gen : ∀ (l : List Nat) (s : BitVec 64), (l.foldl (fun s k => s ||| attB ps k) s).getLsbD j = (s.getLsbD j || l.any fun k => decide (At ps k j)) := by
    intro l
    induction l with
    | nil => intro s; simp
    | cons x r ih =>
      intro s
      rw [List.foldl_cons, ih, BitVec.getLsbD_or, attB_bit ps x j h, List.any_cons, Bool.or_assoc]
      rfl
  have := gen l 0#64
  rw [attF, this]
  simp
theorem attF_bOf {N : Nat} {ps : List (Int × Int)} (hok : GOk (N : Int) ps) (X : Nat → Bool) : attF ps (members (bOf N X)) = bOf N (hitX ps X) := by
  have hN : N ≤ 64 := by have := hok.n40; omega
  refine bv_bits fun j => ?_
  rw [attF_bit ps (fun p hp => ⟨(hok.ix p hp).2.1, by have := (hok.ix p hp).2.2; have := hok.n40; omega⟩), bOf_bit hN, members_bOf hN]
  rw [Bool.eq_iff_iff, List.any_eq_true, Bool.and_eq_true, decide_eq_true_eq, hitX_iff hok.ix]
  constructor
  · rintro ⟨k, hk, ha⟩
    have ha := of_decide_eq_true ha
    exact ⟨(at_lt hok.ix ha).2, k, ha, (List.mem_filter.1 hk).2⟩
  · rintro ⟨hj, k, ha, hx⟩
    exact ⟨k, List.mem_filter.2 ⟨List.mem_range.2 (at_lt hok.ix ha).1, hx⟩, decide_eq_true ha⟩
/-- What the program computes is what the set defends. -/
theorem df_bits {N : Nat} {ps : List (Int × Int)} (hok : GOk (N : Int) ps) (X : Nat → Bool) : bOf N (andX allX (notX (hitX ps (andX allX (notX (hitX ps X)))))) = bOf N (dfX ps X) := by
  have hN : N ≤ 64 := by have := hok.n40; omega
  refine bOf_congr hN fun i hi => ?_
  show (true && !(hitX ps _ i)) = _
  rw [Bool.true_and, Bool.eq_iff_iff, Bool.not_eq_true', Bool.eq_false_iff, dfX_iff hok.ix, Ne, hitX_iff hok.ix]
  constructor
  · intro h k hk
    apply Classical.byContradiction
    intro hn
    refine h ⟨k, hk, ?_⟩
    show (true && !(hitX ps X k)) = true
    rw [Bool.true_and, Bool.not_eq_true', Bool.eq_false_iff, Ne, hitX_iff hok.ix]
    exact hn
  · rintro h ⟨k, hk, hx⟩
    have hx : (true && !(hitX ps X k)) = true := hx
    rw [Bool.true_and, Bool.not_eq_true', Bool.eq_false_iff, Ne, hitX_iff hok.ix] at hx
    exact hx (h k hk)
theorem cf_bits {N : Nat} {ps : List (Int × Int)} (hok : GOk (N : Int) ps) (X : Nat → Bool) : decide (bOf N (andX (hitX ps X) X) = 0#64) = cfX ps X := by
  have hN : N ≤ 64 := by have := hok.n40; omega
  rw [Bool.eq_iff_iff, decide_eq_true_eq, bOf_zero_iff hN, cfX_iff hok.ix]
  constructor
  · intro h k i hk h1 h2
    have := h i (at_lt hok.ix hk).2
    unfold andX at this
    rw [(hitX_iff hok.ix).2 ⟨k, hk, h1⟩, h2] at this
    cases this
  · intro h i hi
    rw [Bool.eq_false_iff]
    intro hx
    unfold andX at hx
    rw [Bool.and_eq_true, hitX_iff hok.ix] at hx
    obtain ⟨⟨k, hk, h1⟩, h2⟩ := hx
    exact h k i hk h1 h2
theorem sub_bits {N : Nat} (hN : N ≤ 64) (X Y : Nat → Bool) : decide (bOf N (andX X (notX Y)) = 0#64) = subX N X Y := by
  rw [Bool.eq_iff_iff, decide_eq_true_eq, bOf_zero_iff hN, subX_iff]
  constructor
  · intro h i hi hx
    have := h i hi
    unfold andX notX at this
    rw [hx] at this
    simpa using this
  · intro h i hi
    unfold andX notX
    cases hx : X i
    · rfl
    · rw [h i hi hx]; rfl
theorem eq_bits {N : Nat} (hN : N ≤ 64) (X Y : Nat → Bool) : decide (bOf N Y = bOf N X) = (subX N X Y && subX N Y X) := by
  rw [Bool.eq_iff_iff, decide_eq_true_eq, Bool.and_eq_true, subX_iff, subX_iff]
  constructor
  · intro h
    have := bOf_inj hN h
    exact ⟨fun i hi hx => by rw [this i hi]; exact hx, fun i hi hx => by rw [← this i hi]; exact hx⟩
  · rintro ⟨h1, h2⟩
    exact bOf_congr hN fun i hi => Bool.eq_iff_iff.2 ⟨h2 i hi, h1 i hi⟩
theorem stab_bits {N : Nat} {ps : List (Int × Int)} (hok : GOk (N : Int) ps) (X : Nat → Bool) : decide (bOf N (hitX ps X) = bOf N (andX allX (notX X))) = stabX N ps X := by
  have hN : N ≤ 64 := by have := hok.n40; omega
  rw [Bool.eq_iff_iff, decide_eq_true_eq, stabX_iff hok.ix]
  constructor
  · intro h
    have := bOf_inj hN h
    have key : ∀ i, i < N → hitX ps X i = !X i := fun i hi => by rw [this i hi]; show (true && !X i) = _; rw [Bool.true_and]
    refine ⟨(cfX_iff hok.ix).2 fun k i hk h1 h2 => ?_, fun i hi => ?_⟩
    · have := key i (at_lt hok.ix hk).2
      rw [(hitX_iff hok.ix).2 ⟨k, hk, h1⟩, h2] at this
      cases this
    · cases hx : X i
      · right
        have := key i hi
        rw [hx] at this
        exact (hitX_iff hok.ix).1 this
      · exact .inl rfl
  · rintro ⟨h1, h2⟩
    refine bOf_congr hN fun i hi => ?_
    show _ = (true && !X i)
    rw [Bool.true_and]
    cases hx : X i
    · rcases h2 i hi with g | g
      · rw [hx] at g; cases g
      · rw [(hitX_iff hok.ix).2 g]; rfl
    · rw [Bool.not_true, Bool.eq_false_iff]
      intro hh
      obtain ⟨k, hk, g⟩ := (hitX_iff hok.ix).1 hh
      exact (cfX_iff hok.ix).1 h1 k i hk g hx
end Go.Proofs.YtfiaoibfejginaaDoor

namespace Go.Proofs.YtfiaoibfejginaaDoor
set_option linter.unusedVariables false
set_option linter.unusedSimpArgs false
open Go Go.RowKit Go.Sort

theorem asc_uniq13 : ∀ {l r : List Nat}, l.Pairwise (fun a b => a < b) → r.Pairwise (fun a b => a < b) → (∀ x, x ∈ l ↔ x ∈ r) → l = r := by
  intro l r hl hr h
  have n1 : l.Nodup := hl.imp fun h => Nat.ne_of_lt h
  have n2 : r.Nodup := hr.imp fun h => Nat.ne_of_lt h
  exact List.Perm.eq_of_pairwise (le := fun a b => a ≤ b) (fun a b _ _ h1 h2 => Nat.le_antisymm h1 h2) (hl.imp fun h => Nat.le_of_lt h) (hr.imp fun h => Nat.le_of_lt h) ((List.perm_ext_iff_of_nodup n1 n2).2 h)
/-- In range and ascending. -/
def SetU (N : Nat) (x : List Int) : Prop := (∀ z ∈ x, 0 ≤ z ∧ z < (N : Int)) ∧ x.Pairwise fun a b => a < b
theorem setL_up (N : Nat) (X : Nat → Bool) : SetU N (setL N X) := by
  refine ⟨fun z hz => ?_, ?_⟩
  · obtain ⟨i, hi, -, rfl⟩ := mem_setL.1 hz
    omega
  · unfold setL ints
    rw [List.pairwise_map]
    exact ((List.pairwise_lt_range (n := N)).sublist List.filter_sublist).imp fun h => Int.ofNat_lt.2 h
theorem setB_iff {N : Nat} {x : List Int} : setB N x = true ↔ SetU N x := by
  constructor
  · intro h
    rw [setB_eq h]
    exact setL_up N _
  · rintro ⟨h1, h2⟩
    have e1 : x = ints (x.map Int.toNat) := by
      unfold ints
      rw [List.map_map]
      conv => lhs; rw [← List.map_id x]
      refine List.map_congr_left fun z hz => ?_
      have := h1 z hz
      show z = Int.ofNat z.toNat
      rw [Int.ofNat_eq_natCast]
      omega
    have e2 : x.map Int.toNat = (List.range N).filter (memB x) := by
      refine asc_uniq13 ?_ ((List.pairwise_lt_range (n := N)).sublist List.filter_sublist) fun i => ?_
      · rw [List.pairwise_map]
        exact h2.imp_of_mem fun {a b} ha hb hab => by have := h1 a ha; have := h1 b hb; omega
      · rw [List.mem_map, List.mem_filter, List.mem_range]
        unfold memB
        rw [decide_eq_true_eq]
        constructor
        · rintro ⟨z, hz, rfl⟩
          have := h1 z hz
          exact ⟨by omega, by rw [show ((z.toNat : Nat) : Int) = z by omega]; exact hz⟩
        · rintro ⟨-, hm⟩
          exact ⟨_, hm, Int.toNat_natCast i⟩
    unfold setB
    rw [decide_eq_true_eq]
    conv => lhs; rw [e1, e2]
    rfl
theorem setU_step {N : Nat} {x : List Int} {k : Nat} (h : k < x.length) (hs : SetU N (x.take k)) (h0 : 0 ≤ x[k]) (h1 : x[k] < (N : Int)) (hp : ∀ j, k = j + 1 → (hj : j < x.length) → x[j] < x[k]) : SetU N (x.take (k + 1)) := by
  rw [List.take_succ_eq_append_getElem h]
  refine ⟨fun z hz => ?_, ?_⟩
  · rcases List.mem_append.1 hz with hz | hz
    · exact hs.1 z hz
    · rw [List.mem_singleton.1 hz]; exact ⟨h0, h1⟩
  · rw [List.pairwise_append]
    refine ⟨hs.2, List.pairwise_singleton _ _, fun a ha b hb => ?_⟩
    rw [List.mem_singleton.1 hb]
    obtain ⟨i, hi, rfl⟩ := List.getElem_of_mem ha
    rw [List.length_take] at hi
    obtain ⟨j, hj⟩ : ∃ j, k = j + 1 := ⟨k - 1, by omega⟩
    have hpj := hp j hj (by omega)
    rw [List.getElem_take]
    by_cases e : i = j
    · subst e; exact hpj
    · have := (List.pairwise_iff_getElem.1 hs.2) i j (by rw [List.length_take]; omega) (by rw [List.length_take]; omega) (by omega)
      rw [List.getElem_take, List.getElem_take] at this
      exact Int.lt_trans this hpj
theorem setB_bad {N : Nat} {x : List Int} {z : Int} (hz : z ∈ x) (h : z < 0 ∨ (N : Int) ≤ z) : setB N x = false := by
  rw [Bool.eq_false_iff]
  intro hs
  have := (setB_iff.1 hs).1 z hz
  omega
theorem setB_bad2 {N : Nat} {x : List Int} {j : Nat} (h1 : j + 1 < x.length) (h : x[j + 1] ≤ x[j]) : setB N x = false := by
  rw [Bool.eq_false_iff]
  intro hs
  have := (List.pairwise_iff_getElem.1 (setB_iff.1 hs).2) j (j + 1) (by omega) h1 (by omega)
  omega

set_option maxRecDepth 100000 in
set_option maxHeartbeats 2000000 in
theorem raValid_any (N : Nat) (v v2 : Value) (ps : List (Int × Int)) (x : List Int) (w : World) (h : PairsAt w v ps) (hs : IL w v2 x) (hsl : x.length ≤ 100000) :
    Calls Tryd.prog 42 #[.agg #[.int .i64 (N : Int), v], v2] w fun e w' => e = .returned (.bool (setB N x)) ∧ Below w.heap.size w w' := by
  have hB := bgrow w (.cells #[.int .i64 (N : Int), v] 24)
  obtain ⟨a, c, rfl, -⟩ := h.form
  obtain ⟨a2, c2, rfl, k2⟩ := (hs.below hB).ic
  have K2 := hidIt k2
  have HX := hidIt (heap_alloc_new w (.cells #[.int .i64 (N : Int), .slice a ps.length c] 24))
  have HB := hidIt hB
  clear h hs hB k2
  go_enter Tryd.func42, Tryd.ntmps42
  go_upto_region 1 with (fail)
  generalize (w.alloc (.cells #[.int .i64 (N : Int), .slice a ps.length c] 24)) = w1 at *
  generalize w.heap.size = P at HX ⊢
  obtain ⟨x0, x1⟩ := And.intro (cell_two0 HX.out) (cell_two1 HX.out)
  have lx := lt_of_block HX.out
  obtain ⟨M, hM⟩ : ∃ M, M = x.length := ⟨_, rfl⟩
  have HM := hidIt hM
  rw [← hM] at hsl ⊢
  clear hM
  go_wp2_with fail
  go_loopw [5] (fun i wr => ∃ k : Nat, k ≤ M ∧ i = .int .i64 k ∧ Hid (Below w1.heap.size w1 wr) ∧ Hid (SetU N (x.take k))) (fun i _ => M - (intOf i).toNat)
  case atStart => exact ⟨0, Nat.zero_le _, (by first | rfl | trivial), Below.refl _ _, (⟨fun z h => (by cases h), List.Pairwise.nil⟩ : SetU N [])⟩
  case round =>
    obtain ⟨k, hk, rfl, HBr, HT⟩ := hrel
    have hkI0 : (0 : Int) ≤ (k : Int) := by omega
    have HXr := hidIt (blk_kept2 HX.out HBr.out)
    have x0r := cell_two0 HXr.out
    have x1r := cell_two1 HXr.out
    have lxr := lt_of_block HXr.out
    have HBF := hidIt (HB.out.trans (Below.mono HBr.out HB.out.size))
    clear x0 x1 lx
    by_cases hlt : k < M
    · have hkI : (k : Int) < (M : Int) := by omega
      have h1x : k < x.length := by have := HM.out; omega
      obtain ⟨b1, o1, rfl, l1, hcs⟩ := (K2.out.go HBr.out).at_ h1x
      have p0 := hcs k h1x
      have HCS := hidIt hcs
      have HMM := hidIt (List.getElem_mem h1x)
      have HST : Hid (0 ≤ x[k] → x[k] < (N : Int) → (∀ j, k = j + 1 → (hj : j < x.length) → x[j] < x[k]) → SetU N (x.take (k + 1))) := fun h0 h1 hp => setU_step h1x HT.out h0 h1 hp
      have HBD : Hid (∀ j, k = j + 1 → (hj : j < x.length) → x[k] ≤ x[j] → setB N x = false) := fun j e hj h => by subst e; exact setB_bad2 h1x h
      clear hcs
      generalize hz : x[k] = z at *
      clear hz
      by_cases hz0 : z < 0
      · have HE : Hid (setB N x = false) := setB_bad HMM.out (.inl hz0)
        go_wp2_with fail
        go_quiet (fail)
        go_wp2_with fail
        go_ret
        exact ⟨ret_bool HE.out.symm, ⟨HBF.out.os, HBF.out.tape, HBF.out.output, HBF.out.size, HBF.out.block⟩⟩
      have hd1 : decide (z < 0) = false := decide_eq_false hz0
      by_cases hzN : (N : Int) ≤ z
      · have HE : Hid (setB N x = false) := setB_bad HMM.out (.inr hzN)
        have hd2 : decide ((N : Int) ≤ z) = true := decide_eq_true hzN
        go_wp2_with fail
        go_quiet (fail)
        go_wp2_with fail
        go_ret
        exact ⟨ret_bool HE.out.symm, ⟨HBF.out.os, HBF.out.tape, HBF.out.output, HBF.out.size, HBF.out.block⟩⟩
      have hd2 : decide ((N : Int) ≤ z) = false := decide_eq_false hzN
      by_cases hk0 : k = 0
      · have HE : Hid (SetU N (x.take (k + 1))) := HST.out (by omega) (by omega) (fun j e => by omega)
        have hd3 : decide ((0 : Int) < (k : Int)) = false := decide_eq_false (by omega)
        have hkn : ¬ 0 < k := by omega
        clear hk0
        go_wp2_with fail
        go_quiet (fail)
        go_wp2_with fail
        go_roundw
        case rel => exact ⟨k + 1, by omega, by go_num, ⟨HBr.out.os, HBr.out.tape, HBr.out.output, HBr.out.size, HBr.out.block⟩, HE.out⟩
        case measure => simp [intOf]; omega
      have hkp : (0 : Int) < (k : Int) := by omega
      have hkm : 0 ≤ (k : Int) - 1 := by omega
      have hkm2 : (k : Int) - 1 < (M : Int) := by omega
      have hwr : IntKind.i64.wrap ((k : Int) - 1) = ((k : Int) - 1) := IntWalk.i64_in _ (by omega)
      have hj : k - 1 < x.length := by omega
      have q0 := HCS.out (k - 1) hj
      have HSJ : Hid (x[k - 1] < z → SetU N (x.take (k + 1))) := fun h => HST.out (by omega) (by omega) (fun j e hj' => by
        obtain rfl : j = k - 1 := by omega
        exact h)
      have HBJ : Hid (z ≤ x[k - 1] → setB N x = false) := fun h => HBD.out (k - 1) (by omega) hj h
      generalize x[k - 1] = y at *
      have hk1 : 1 ≤ k := by omega
      have hkpn : 0 < k := by omega
      have hd3 : decide ((0 : Int) < (k : Int)) = true := decide_eq_true hkp
      clear hk0 hj
      by_cases hzy : z ≤ y
      · have HE := hidIt (HBJ.out hzy)
        have hd4 : decide (z ≤ y) = true := decide_eq_true hzy
        go_wp2_with fail
        go_quiet (fail)
        go_wp2_with fail
        go_ret
        exact ⟨ret_bool HE.out.symm, ⟨HBF.out.os, HBF.out.tape, HBF.out.output, HBF.out.size, HBF.out.block⟩⟩
      · have HE := hidIt (HSJ.out (by omega))
        have hd4 : decide (z ≤ y) = false := decide_eq_false hzy
        go_wp2_with fail
        go_quiet (fail)
        go_wp2_with fail
        go_roundw
        case rel => exact ⟨k + 1, by omega, by go_num, ⟨HBr.out.os, HBr.out.tape, HBr.out.output, HBr.out.size, HBr.out.block⟩, HE.out⟩
        case measure => simp [intOf]; omega
    · have hkI : ¬ (k : Int) < (M : Int) := by omega
      have HE : Hid (setB N x = true) := by
        have := HT.out
        rw [List.take_of_length_le (by have := HM.out; omega)] at this
        exact setB_iff.2 this
      go_wp2_with fail
      go_ret
      exact ⟨ret_bool HE.out.symm, HBF.out⟩
end Go.Proofs.YtfiaoibfejginaaDoor
