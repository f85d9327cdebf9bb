/- Sets of nodes as functions: hits, defence, freedom from conflicts, and what follows from them. -/
import Derived.Test.YtihmdnbeonefcaaDoorZ4A

namespace Go.Proofs.YtihmdnbeonefcaaDoor
set_option linter.unusedVariables false
set_option linter.unusedSimpArgs false
open Go Go.RowKit Go.Sort

/-- Is the node in the list? -/
def memB (x : List Int) (i : Nat) : Bool := decide ((i : Int) ∈ x)
/-- A set as a list. -/
def setL (N : Nat) (X : Nat → Bool) : List Int := ints ((List.range N).filter X)
/-- Is the list a set of nodes? -/
def setB (N : Nat) (x : List Int) : Bool := decide (x = setL N (memB x))
/-- A node of the set attacks i. -/
def hitX (ps : List (Int × Int)) (X : Nat → Bool) (i : Nat) : Bool := ps.any fun p => p.2 == (i : Int) && X p.1.toNat
/-- The set defends i. -/
def dfX (ps : List (Int × Int)) (X : Nat → Bool) (i : Nat) : Bool := ps.all fun p => !(p.2 == (i : Int)) || hitX ps X p.1.toNat
/-- No conflict in the set. -/
def cfX (ps : List (Int × Int)) (X : Nat → Bool) : Bool := !(ps.any fun p => X p.1.toNat && X p.2.toNat)
/-- All nodes of the one are in the other. -/
def subX (N : Nat) (X Y : Nat → Bool) : Bool := (List.range N).all fun i => !X i || Y i
def admX (N : Nat) (ps : List (Int × Int)) (X : Nat → Bool) : Bool := cfX ps X && subX N X (dfX ps X)
def compX (N : Nat) (ps : List (Int × Int)) (X : Nat → Bool) : Bool := cfX ps X && (subX N X (dfX ps X) && subX N (dfX ps X) X)
def orX (X Y : Nat → Bool) (i : Nat) : Bool := X i || Y i
def stabX (N : Nat) (ps : List (Int × Int)) (X : Nat → Bool) : Bool := cfX ps X && subX N (fun _ => true) (orX X (hitX ps X))

theorem mem_setL {N : Nat} {X : Nat → Bool} {z : Int} : z ∈ setL N X ↔ ∃ i : Nat, i < N ∧ X i = true ∧ z = (i : Int) := by
  unfold setL ints
  rw [List.mem_map]
  constructor
  · rintro ⟨i, hi, rfl⟩
    obtain ⟨h1, h2⟩ := List.mem_filter.1 hi
    exact ⟨i, List.mem_range.1 h1, h2, rfl⟩
  · rintro ⟨i, h1, h2, rfl⟩
    exact ⟨i, List.mem_filter.2 ⟨List.mem_range.2 h1, h2⟩, rfl⟩
theorem memB_setL {N : Nat} {X : Nat → Bool} (i : Nat) : memB (setL N X) i = (decide (i < N) && X i) := by
  unfold memB
  rw [Bool.eq_iff_iff, decide_eq_true_eq, mem_setL, Bool.and_eq_true, decide_eq_true_eq]
  constructor
  · rintro ⟨j, h1, h2, h3⟩
    obtain rfl : i = j := Int.ofNat.inj h3
    exact ⟨h1, h2⟩
  · exact fun ⟨h1, h2⟩ => ⟨i, h1, h2, rfl⟩
theorem setL_congr {N : Nat} {X Y : Nat → Bool} (h : ∀ i, i < N → X i = Y i) : setL N X = setL N Y := by
  unfold setL
  rw [List.filter_congr fun i hi => h i (List.mem_range.1 hi)]
theorem setL_inj {N : Nat} {X Y : Nat → Bool} (h : setL N X = setL N Y) : ∀ i, i < N → X i = Y i := fun i hi => by
  have h1 := memB_setL (N := N) (X := X) i
  rw [h, memB_setL] at h1
  simpa [hi] using h1.symm
theorem setL_len (N : Nat) (X : Nat → Bool) : (setL N X).length ≤ N := by
  unfold setL
  rw [ints_len]
  have := List.length_filter_le X (List.range N)
  rwa [List.length_range] at this
theorem setB_setL (N : Nat) (X : Nat → Bool) : setB N (setL N X) = true := by
  unfold setB
  rw [decide_eq_true_eq]
  exact setL_congr fun i hi => by rw [memB_setL]; simp [hi]
theorem setB_eq {N : Nat} {x : List Int} (h : setB N x = true) : x = setL N (memB x) := of_decide_eq_true h
theorem setB_lt {N : Nat} {x : List Int} (h : setB N x = true) {i : Nat} (hi : memB x i = true) : i < N := by
  rw [setB_eq h, memB_setL, Bool.and_eq_true, decide_eq_true_eq] at hi
  exact hi.1
theorem setB_len {N : Nat} {x : List Int} (h : setB N x = true) : x.length ≤ N := by
  rw [setB_eq h]; exact setL_len N _
theorem subX_iff {N : Nat} {X Y : Nat → Bool} : subX N X Y = true ↔ ∀ i, i < N → X i = true → Y i = true := by
  unfold subX
  rw [List.all_eq_true]
  constructor
  · intro h i hi hx
    have := h i (List.mem_range.2 hi)
    simpa [hx] using this
  · intro h i hi
    have := h i (List.mem_range.1 hi)
    cases hx : X i
    · rfl
    · simpa using this hx

section
variable {N : Nat} {ps : List (Int × Int)} (hix : ∀ p ∈ ps, (0 ≤ p.1 ∧ p.1 < (N : Int)) ∧ (0 ≤ p.2 ∧ p.2 < (N : Int)))
include hix
theorem hitX_iff {X : Nat → Bool} {i : Nat} : hitX ps X i = true ↔ ∃ k, At ps k i ∧ X k = true := by
  unfold hitX At
  rw [List.any_eq_true]
  constructor
  · rintro ⟨p, hp, hq⟩
    rw [Bool.and_eq_true, beq_iff_eq] at hq
    have := hix p hp
    refine ⟨p.1.toNat, ?_, hq.2⟩
    have e : ((p.1.toNat : Int), (i : Int)) = p := Prod.ext (by simp only; omega) hq.1.symm
    rw [e]; exact hp
  · rintro ⟨k, hk, hx⟩
    refine ⟨_, hk, ?_⟩
    rw [Bool.and_eq_true, beq_iff_eq]
    exact ⟨rfl, by rw [Int.toNat_natCast]; exact hx⟩
theorem dfX_iff {X : Nat → Bool} {i : Nat} : dfX ps X i = true ↔ ∀ k, At ps k i → ∃ m, At ps m k ∧ X m = true := by
  unfold dfX
  rw [List.all_eq_true]
  constructor
  · intro h k hk
    have := h _ hk
    simp only [beq_self_eq_true, Bool.not_true, Bool.false_or, Int.toNat_natCast] at this
    exact (hitX_iff hix).1 this
  · intro h p hp
    by_cases e : p.2 = (i : Int)
    · have hr := hix p hp
      have e2 : ((p.1.toNat : Int), (i : Int)) = p := Prod.ext (by simp only; omega) e.symm
      have := (hitX_iff hix).2 (h p.1.toNat (by unfold At; rw [e2]; exact hp))
      rw [this, Bool.or_true]
    · rw [beq_eq_false_iff_ne.2 e]; rfl
theorem cfX_iff {X : Nat → Bool} : cfX ps X = true ↔ ∀ k i, At ps k i → X k = true → X i = true → False := by
  unfold cfX At
  rw [Bool.not_eq_true', List.any_eq_false]
  constructor
  · intro h k i hk h1 h2
    have := h _ hk
    simp [h1, h2] at this
  · intro h p hp hq
    rw [Bool.and_eq_true] at hq
    have hr := hix p hp
    have e2 : ((p.1.toNat : Int), (p.2.toNat : Int)) = p := Prod.ext (by simp only; omega) (by simp only; omega)
    exact h p.1.toNat p.2.toNat (by rw [e2]; exact hp) hq.1 hq.2
theorem dfX_mono {X Y : Nat → Bool} (h : ∀ i, i < N → X i = true → Y i = true) {i : Nat} (hd : dfX ps X i = true) : dfX ps Y i = true := by
  rw [dfX_iff hix] at *
  intro k hk
  obtain ⟨m, hm, hx⟩ := hd k hk
  exact ⟨m, hm, h m (at_lt hix hm).1 hx⟩
theorem hitX_congr {X Y : Nat → Bool} (h : ∀ i, i < N → X i = Y i) (i : Nat) : hitX ps X i = hitX ps Y i := by
  rw [Bool.eq_iff_iff, hitX_iff hix, hitX_iff hix]
  exact ⟨fun ⟨k, hk, hx⟩ => ⟨k, hk, by rw [← h k (at_lt hix hk).1]; exact hx⟩, fun ⟨k, hk, hx⟩ => ⟨k, hk, by rw [h k (at_lt hix hk).1]; exact hx⟩⟩
theorem dfX_congr {X Y : Nat → Bool} (h : ∀ i, i < N → X i = Y i) (i : Nat) : dfX ps X i = dfX ps Y i := by
  rw [Bool.eq_iff_iff]
  exact ⟨dfX_mono hix fun i hi hx => by rw [← h i hi]; exact hx, dfX_mono hix fun i hi hx => by rw [h i hi]; exact hx⟩
theorem cfX_sub {X Y : Nat → Bool} (h : ∀ i, i < N → X i = true → Y i = true) (hc : cfX ps Y = true) : cfX ps X = true := by
  rw [cfX_iff hix] at *
  exact fun k i hk h1 h2 => hc k i hk (h k (at_lt hix hk).1 h1) (h i (at_lt hix hk).2 h2)
theorem cfX_congr {X Y : Nat → Bool} (h : ∀ i, i < N → X i = Y i) : cfX ps X = cfX ps Y := by
  rw [Bool.eq_iff_iff]
  exact ⟨cfX_sub hix fun i hi hx => by rw [h i hi]; exact hx, cfX_sub hix fun i hi hx => by rw [← h i hi]; exact hx⟩
omit hix in
theorem admX_iff {X : Nat → Bool} : admX N ps X = true ↔ cfX ps X = true ∧ ∀ i, i < N → X i = true → dfX ps X i = true := by
  unfold admX
  rw [Bool.and_eq_true, subX_iff]
omit hix in
theorem compX_iff {X : Nat → Bool} : compX N ps X = true ↔ cfX ps X = true ∧ (∀ i, i < N → X i = true → dfX ps X i = true) ∧ ∀ i, i < N → dfX ps X i = true → X i = true := by
  unfold compX
  rw [Bool.and_eq_true, Bool.and_eq_true, subX_iff, subX_iff]
theorem stabX_iff {X : Nat → Bool} : stabX N ps X = true ↔ cfX ps X = true ∧ ∀ i, i < N → X i = true ∨ ∃ k, At ps k i ∧ X k = true := by
  unfold stabX
  rw [Bool.and_eq_true, subX_iff]
  constructor
  · refine fun ⟨h1, h2⟩ => ⟨h1, fun i hi => ?_⟩
    have := h2 i hi rfl
    unfold orX at this
    rw [Bool.or_eq_true] at this
    rcases this with h | h
    · exact .inl h
    · exact .inr ((hitX_iff hix).1 h)
  · refine fun ⟨h1, h2⟩ => ⟨h1, fun i hi _ => ?_⟩
    unfold orX
    rw [Bool.or_eq_true]
    rcases h2 i hi with h | h
    · exact .inl h
    · exact .inr ((hitX_iff hix).2 h)
/-- The fundamental lemma: what an admissible set defends is free of conflicts. -/
theorem step_cf {X : Nat → Bool} (hc : cfX ps X = true) (hd : ∀ i, i < N → X i = true → dfX ps X i = true) : cfX ps (dfX ps X) = true := by
  rw [cfX_iff hix]
  intro k i hk h1 h2
  obtain ⟨m, hm, hx⟩ := (dfX_iff hix).1 h2 k hk
  obtain ⟨n, hn, hy⟩ := (dfX_iff hix).1 h1 m hm
  exact (cfX_iff hix).1 hc n m hn hy hx
theorem stab_comp {X : Nat → Bool} (h : stabX N ps X = true) : compX N ps X = true := by
  obtain ⟨h1, h2⟩ := (stabX_iff hix).1 h
  have hc := (cfX_iff hix).1 h1
  refine compX_iff.2 ⟨h1, fun i hi hx => (dfX_iff hix).2 fun k hk => ?_, fun i hi hd => ?_⟩
  · rcases h2 k (at_lt hix hk).1 with g | g
    · exact absurd hx fun hx => hc k i hk g hx
    · exact g
  · rcases h2 i hi with g | ⟨k, hk, g⟩
    · exact g
    · obtain ⟨m, hm, gm⟩ := (dfX_iff hix).1 hd k hk
      exact absurd g fun g => hc m k hm gm g
/-- What an admissible set defends may be added. -/
theorem adm_more {X Y : Nat → Bool} (h : admX N ps X = true) (h1 : ∀ i, i < N → X i = true → Y i = true) (h2 : ∀ i, i < N → Y i = true → dfX ps X i = true) : admX N ps Y = true := by
  obtain ⟨hc, hd⟩ := admX_iff.1 h
  exact admX_iff.2 ⟨cfX_sub hix h2 (step_cf hix hc hd), fun i hi hy => dfX_mono hix h1 (h2 i hi hy)⟩
theorem adm_union {X Y : Nat → Bool} (h : admX N ps X = true) (h' : admX N ps Y = true) (hc : cfX ps (orX X Y) = true) : admX N ps (orX X Y) = true := by
  refine admX_iff.2 ⟨hc, fun i hi hx => ?_⟩
  unfold orX at hx
  rw [Bool.or_eq_true] at hx
  rcases hx with hx | hx
  · exact dfX_mono hix (fun i _ hx => by unfold orX; rw [hx]; rfl) ((admX_iff.1 h).2 i hi hx)
  · exact dfX_mono hix (fun i _ hx => by unfold orX; rw [hx, Bool.or_true]) ((admX_iff.1 h').2 i hi hx)
end

/-- The least set that holds X and all that it defends, of an admissible X. -/
structure GrowR (N : Nat) (ps : List (Int × Int)) (X Z : Nat → Bool) : Prop where
  sup : ∀ i, i < N → X i = true → Z i = true
  cf : cfX ps Z = true
  def_ : ∀ i, i < N → Z i = true → dfX ps Z i = true
  all_ : ∀ i, i < N → dfX ps Z i = true → Z i = true
  least : ∀ Y : Nat → Bool, (∀ i, i < N → X i = true → Y i = true) → (∀ i, i < N → dfX ps Y i = true → Y i = true) → ∀ i, i < N → Z i = true → Y i = true
/-- The greatest set within X that defends all that it holds. -/
structure ShrinkR (N : Nat) (ps : List (Int × Int)) (X Z : Nat → Bool) : Prop where
  sub : ∀ i, i < N → Z i = true → X i = true
  def_ : ∀ i, i < N → Z i = true → dfX ps Z i = true
  most : ∀ Y : Nat → Bool, (∀ i, i < N → Y i = true → X i = true) → (∀ i, i < N → Y i = true → dfX ps Y i = true) → ∀ i, i < N → Y i = true → Z i = true
theorem GrowR.uniq {N : Nat} {ps : List (Int × Int)} {X Z Z' : Nat → Bool} (h : GrowR N ps X Z) (h' : GrowR N ps X Z') : setL N Z = setL N Z' := setL_congr fun i hi => by
  rw [Bool.eq_iff_iff]
  exact ⟨h.least Z' h'.sup h'.all_ i hi, h'.least Z h.sup h.all_ i hi⟩
theorem ShrinkR.uniq {N : Nat} {ps : List (Int × Int)} {X Z Z' : Nat → Bool} (h : ShrinkR N ps X Z) (h' : ShrinkR N ps X Z') : setL N Z = setL N Z' := setL_congr fun i hi => by
  rw [Bool.eq_iff_iff]
  exact ⟨h'.most Z h.sub h.def_ i hi, h.most Z' h'.sub h'.def_ i hi⟩
/-- On the way up. -/
structure GrowI (N : Nat) (ps : List (Int × Int)) (X Z : Nat → Bool) : Prop where
  sup : ∀ i, i < N → X i = true → Z i = true
  cf : cfX ps Z = true
  def_ : ∀ i, i < N → Z i = true → dfX ps Z i = true
  least : ∀ Y : Nat → Bool, (∀ i, i < N → X i = true → Y i = true) → (∀ i, i < N → dfX ps Y i = true → Y i = true) → ∀ i, i < N → Z i = true → Y i = true
structure ShrinkI (N : Nat) (ps : List (Int × Int)) (X Z : Nat → Bool) : Prop where
  sub : ∀ i, i < N → Z i = true → X i = true
  most : ∀ Y : Nat → Bool, (∀ i, i < N → Y i = true → X i = true) → (∀ i, i < N → Y i = true → dfX ps Y i = true) → ∀ i, i < N → Y i = true → Z i = true
theorem GrowI.start {N : Nat} {ps : List (Int × Int)} {X : Nat → Bool} (h : admX N ps X = true) : GrowI N ps X X :=
  ⟨fun _ _ h => h, (admX_iff.1 h).1, (admX_iff.1 h).2, fun _ h _ => h⟩
theorem ShrinkI.start {N : Nat} {ps : List (Int × Int)} {X : Nat → Bool} : ShrinkI N ps X X := ⟨fun _ _ h => h, fun _ h _ => h⟩
def cutX (ps : List (Int × Int)) (X : Nat → Bool) (i : Nat) : Bool := X i && dfX ps X i
section
variable {N : Nat} {ps : List (Int × Int)} (hix : ∀ p ∈ ps, (0 ≤ p.1 ∧ p.1 < (N : Int)) ∧ (0 ≤ p.2 ∧ p.2 < (N : Int)))
include hix
theorem GrowI.next {X Z : Nat → Bool} (h : GrowI N ps X Z) : GrowI N ps X (dfX ps Z) :=
  ⟨fun i hi hx => h.def_ i hi (h.sup i hi hx), step_cf hix h.cf h.def_, fun i hi hd => dfX_mono hix h.def_ hd,
    fun Y h1 h2 i hi hd => h2 i hi (dfX_mono hix (h.least Y h1 h2) hd)⟩
theorem ShrinkI.next {X Z : Nat → Bool} (h : ShrinkI N ps X Z) : ShrinkI N ps X (cutX ps Z) :=
  ⟨fun i hi hx => h.sub i hi (by unfold cutX at hx; rw [Bool.and_eq_true] at hx; exact hx.1), fun Y h1 h2 i hi hy => by
    unfold cutX
    rw [Bool.and_eq_true]
    exact ⟨h.most Y h1 h2 i hi hy, dfX_mono hix (h.most Y h1 h2) (h2 i hi hy)⟩⟩
omit hix in
theorem GrowI.fin {X Z : Nat → Bool} (h : GrowI N ps X Z) (hf : ∀ i, i < N → dfX ps Z i = Z i) : GrowR N ps X Z :=
  ⟨h.sup, h.cf, h.def_, fun i hi hd => by rw [← hf i hi]; exact hd, h.least⟩
omit hix in
theorem ShrinkI.fin {X Z : Nat → Bool} (h : ShrinkI N ps X Z) (hf : ∀ i, i < N → cutX ps Z i = Z i) : ShrinkR N ps X Z :=
  ⟨h.sub, fun i hi hz => by have := hf i hi; unfold cutX at this; rw [hz] at this; simpa using this, h.most⟩
end
/-- Sizes. -/
def sizeX (N : Nat) (X : Nat → Bool) : Nat := ((List.range N).filter X).length
theorem sizeX_le (N : Nat) (X : Nat → Bool) : sizeX N X ≤ N := by
  have := List.length_filter_le X (List.range N)
  rwa [List.length_range] at this
theorem setL_size (N : Nat) (X : Nat → Bool) : (setL N X).length = sizeX N X := ints_len _
theorem sizeX_mono {X Y : Nat → Bool} : ∀ {N : Nat}, (∀ i, i < N → X i = true → Y i = true) → sizeX N X ≤ sizeX N Y
  | 0, _ => Nat.le_refl _
  | N + 1, h => by
    have ih := sizeX_mono (N := N) fun i hi => h i (by omega)
    have hN := h N (by omega)
    unfold sizeX at *
    rw [List.range_succ, List.filter_append, List.filter_append, List.length_append, List.length_append]
    cases hX : X N
    · simp only [List.filter_cons, hX, List.filter_nil]; simp; omega
    · simp only [List.filter_cons, hX, hN hX, List.filter_nil]; simp; omega
theorem sizeX_eq {X Y : Nat → Bool} : ∀ {N : Nat}, (∀ i, i < N → X i = true → Y i = true) → sizeX N Y ≤ sizeX N X → ∀ i, i < N → X i = Y i
  | 0, _, _, i, hi => by omega
  | N + 1, h, hs, i, hi => by
    have ih := sizeX_mono (N := N) fun i hi => h i (by omega)
    have hN := h N (by omega)
    have e : ∀ X : Nat → Bool, sizeX (N + 1) X = sizeX N X + if X N = true then 1 else 0 := fun X => by
      unfold sizeX
      rw [List.range_succ, List.filter_append, List.length_append]
      cases hX : X N <;> simp [hX]
    rw [e, e] at hs
    have hxy : X N = Y N := by
      cases hX : X N
      · rw [hX] at hs
        cases hY : Y N
        · rfl
        · rw [hY] at hs; simp at hs; omega
      · rw [hN hX]
    rw [hxy] at hs
    by_cases ei : i = N
    · subst ei; exact hxy
    · exact sizeX_eq (N := N) (fun i hi => h i (by omega)) (by omega) i (by omega)
theorem sizeX_lt {N : Nat} {X Y : Nat → Bool} (h : ∀ i, i < N → X i = true → Y i = true) (hne : setL N X ≠ setL N Y) : sizeX N X < sizeX N Y := by
  rcases Nat.lt_or_ge (sizeX N X) (sizeX N Y) with h1 | h1
  · exact h1
  · exact absurd (setL_congr (sizeX_eq h h1)) hne
end Go.Proofs.YtihmdnbeonefcaaDoor
