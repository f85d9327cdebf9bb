/- The grounded labelling is complete, and the least complete one; what ranks prove. -/
import Derived.Test.YtfiaoibfejginaaDoorZ2C
import Derived.Test.YtfiaoibfejginaaDoorZ2L1K

namespace Go.Proofs.YtfiaoibfejginaaDoor
set_option linter.unusedVariables false
set_option linter.unusedSimpArgs false
open Go Go.RowKit Go.Sort

/-- Is it a complete labelling? -/
def compB (N : Nat) (ps : List (Int × Int)) (l : List Int) : Bool := validB N l && decide ((illL N ps l).length = 0)
theorem cnt_pos {N : Nat} {ps : List (Int × Int)} (hix : ∀ p ∈ ps, (0 ≤ p.1 ∧ p.1 < (N : Int)) ∧ (0 ≤ p.2 ∧ p.2 < (N : Int))) (l : List Int) (i x : Nat) : 0 < ((cntLb ps l i x : Nat) : Int) ↔ ∃ k, At ps k i ∧ l.getD k 0 = (x : Int) := by
  unfold cntLb At
  constructor
  · intro h
    obtain ⟨p, hp⟩ := List.exists_mem_of_length_pos (l := ps.filter fun p => p.2 == (i : Int) && l.getD p.1.toNat 0 == (x : Int)) (by omega)
    obtain ⟨hp, hq⟩ := List.mem_filter.1 hp
    rw [Bool.and_eq_true, beq_iff_eq, beq_iff_eq] at hq
    have := hix p hp
    refine ⟨p.1.toNat, ?_, hq.2⟩
    have e : ((p.1.toNat : Int), (i : Int)) = p := Prod.ext (by simp only; omega) hq.1.symm
    rw [e]; exact hp
  · rintro ⟨k, hk, hl⟩
    have : 0 < (ps.filter fun p => p.2 == (i : Int) && l.getD p.1.toNat 0 == (x : Int)).length := by
      refine List.length_pos_of_mem (List.mem_filter.2 ⟨hk, ?_⟩)
      rw [Bool.and_eq_true, beq_iff_eq, beq_iff_eq]
      exact ⟨rfl, by rw [Int.toNat_natCast]; exact hl⟩
    omega
/-- A complete labelling, said by attackers. -/
structure CmpG (N : Nat) (ps : List (Int × Int)) (l : List Int) : Prop where
  len : l.length = N
  ok : LabOk l
  two : ∀ i, i < N → (l.getD i 0 = 2 ↔ ∃ k, At ps k i ∧ l.getD k 0 = 1)
  one : ∀ i, i < N → (l.getD i 0 = 1 ↔ ∀ k, At ps k i → l.getD k 0 = 2)
theorem LabOk.get {l : List Int} (h : LabOk l) {i : Nat} (hi : i < l.length) : l.getD i 0 = 1 ∨ l.getD i 0 = 2 ∨ l.getD i 0 = 3 := by
  rw [getD_at hi]; exact h _ (List.getElem_mem hi)
theorem leg_iff {N : Nat} {ps : List (Int × Int)} (hix : ∀ p ∈ ps, (0 ≤ p.1 ∧ p.1 < (N : Int)) ∧ (0 ≤ p.2 ∧ p.2 < (N : Int))) {l : List Int} (hl : l.length = N) (ho : LabOk l) {i : Nat} (hi : i < N) :
    l.getD i 0 = legL ps l i ↔ (l.getD i 0 = 2 ↔ ∃ k, At ps k i ∧ l.getD k 0 = 1) ∧ (l.getD i 0 = 1 ↔ ∀ k, At ps k i → l.getD k 0 = 2) := by
  have h1 := cnt_pos hix l i 1
  have h3 := cnt_pos hix l i 3
  have hk : ∀ k, At ps k i → l.getD k 0 = 1 ∨ l.getD k 0 = 2 ∨ l.getD k 0 = 3 := fun k hk => ho.get (by rw [hl]; exact (at_lt hix hk).1)
  unfold legL legC
  have hi3 := ho.get (i := i) (by omega)
  by_cases c1 : 0 < ((cntLb ps l i 1 : Nat) : Int)
  · rw [if_pos c1]
    obtain ⟨k, ha, hb⟩ := h1.1 c1
    have hb : l.getD k 0 = 1 := hb
    constructor
    · intro e
      exact ⟨⟨fun _ => ⟨k, ha, hb⟩, fun _ => e⟩, ⟨fun e1 => by omega, fun hall => by have := hall k ha; omega⟩⟩
    · intro ⟨e, _⟩
      exact e.2 ⟨k, ha, hb⟩
  · rw [if_neg c1]
    have n1 : ¬ ∃ k, At ps k i ∧ l.getD k 0 = 1 := fun h => c1 (h1.2 h)
    by_cases c3 : 0 < ((cntLb ps l i 3 : Nat) : Int)
    · rw [if_pos c3]
      obtain ⟨k, ha, hb⟩ := h3.1 c3
      have hb : l.getD k 0 = 3 := hb
      constructor
      · intro e
        exact ⟨⟨fun e2 => by omega, fun h => absurd h n1⟩, ⟨fun e1 => by omega, fun hall => by have := hall k ha; omega⟩⟩
      · intro ⟨e, f⟩
        rcases hi3 with g | g | g
        · have := f.1 g k ha; omega
        · exact absurd (e.1 g) n1
        · exact g
    · rw [if_neg c3]
      have n3 : ¬ ∃ k, At ps k i ∧ l.getD k 0 = 3 := fun h => c3 (h3.2 h)
      have all : ∀ k, At ps k i → l.getD k 0 = 2 := fun k ha => by
        rcases hk k ha with g | g | g
        · exact absurd ⟨k, ha, g⟩ n1
        · exact g
        · exact absurd ⟨k, ha, g⟩ n3
      constructor
      · intro e
        exact ⟨⟨fun e2 => by omega, fun h => absurd h n1⟩, ⟨fun _ => all, fun _ => e⟩⟩
      · intro ⟨_, f⟩
        exact f.2 all
theorem mem_illLM {N i : Nat} {ps : List (Int × Int)} {l : List Int} (hi : i < N) (hl : l.length = N) (ho : LabOk l) : i ∈ illL N ps l ↔ l.getD i 0 ≠ legL ps l i := by
  unfold illL
  rw [if_pos (validB_iff.2 ⟨hl, ho⟩)]
  unfold illTo
  rw [List.mem_filter, List.mem_range, decide_eq_true_eq]
  exact ⟨fun h => h.2, fun h => ⟨hi, h⟩⟩
theorem comp_iff {N : Nat} {ps : List (Int × Int)} (hix : ∀ p ∈ ps, (0 ≤ p.1 ∧ p.1 < (N : Int)) ∧ (0 ≤ p.2 ∧ p.2 < (N : Int))) {l : List Int} : compB N ps l = true ↔ CmpG N ps l := by
  unfold compB
  rw [Bool.and_eq_true, decide_eq_true_eq, validB_iff]
  constructor
  · rintro ⟨⟨hl, ho⟩, h0⟩
    have key : ∀ i, i < N → l.getD i 0 = legL ps l i := fun i hi => Classical.byContradiction fun hne => by
      have := (mem_illLM (ps := ps) hi hl ho).2 hne
      rw [List.eq_nil_of_length_eq_zero h0] at this
      cases this
    exact ⟨hl, ho, fun i hi => ((leg_iff hix hl ho hi).1 (key i hi)).1, fun i hi => ((leg_iff hix hl ho hi).1 (key i hi)).2⟩
  · intro h
    refine ⟨⟨h.len, h.ok⟩, ?_⟩
    have : illL N ps l = [] := by
      rw [List.eq_nil_iff_forall_not_mem]
      intro i hi
      have hiN : i < N := by
        unfold illL at hi
        rw [if_pos (validB_iff.2 ⟨h.len, h.ok⟩)] at hi
        exact List.mem_range.1 (List.mem_filter.1 hi).1
      exact (mem_illLM hiN h.len h.ok).1 hi ((leg_iff hix h.len h.ok hiN).2 ⟨h.two i hiN, h.one i hiN⟩)
    rw [this]; rfl

section
variable {N : Nat} {ps : List (Int × Int)} (hix : ∀ p ∈ ps, (0 ≤ p.1 ∧ p.1 < (N : Int)) ∧ (0 ≤ p.2 ∧ p.2 < (N : Int)))
include hix
omit hix in
theorem GSpec.complete {lab rk : List Int} (h : GSpec N ps lab rk) : CmpG N ps lab := by
  refine ⟨h.ll, fun x hx => ?_, fun i hi => ⟨fun e => ?_, fun ⟨k, hk, hk1⟩ => ?_⟩, fun i hi => ⟨fun e k hk => ((h.inn i hi e).2.1 k hk).1, fun hall => ?_⟩⟩
  · obtain ⟨i, hi, rfl⟩ := List.getElem_of_mem hx
    have := h.lo i (by rw [← h.ll]; exact hi)
    rwa [getD_at hi] at this
  · obtain ⟨-, ⟨k, hk, hk1, -⟩, -⟩ := h.out i hi e
    exact ⟨k, hk, hk1⟩
  · rcases h.lo i hi with e | e | e
    · have := ((h.inn i hi e).2.1 k hk).1; omega
    · exact e
    · exact absurd hk1 ((h.und i hi e).2.2 k hk)
  · rcases h.lo i hi with e | e | e
    · exact e
    · obtain ⟨-, ⟨k, hk, hk1, -⟩, -⟩ := h.out i hi e
      have := hall k hk; omega
    · obtain ⟨-, ⟨k, hk, hk3⟩, -⟩ := h.und i hi e
      have := hall k hk; omega
/-- What the grounded labelling decides every complete one decides so. -/
theorem GSpec.least {lab rk y : List Int} (h : GSpec N ps lab rk) (hy : CmpG N ps y) : ∀ (m : Nat) (i : Nat), i < N → (rk.getD i 0).toNat ≤ m → (lab.getD i 0 = 1 → y.getD i 0 = 1) ∧ (lab.getD i 0 = 2 → y.getD i 0 = 2) := by
  intro m
  induction m with
  | zero =>
    intro i hi hm
    exact ⟨fun e => by have := (h.inn i hi e).1; omega, fun e => by have := (h.out i hi e).1; omega⟩
  | succ m ih =>
    have A : ∀ i, i < N → (rk.getD i 0).toNat ≤ m + 1 → lab.getD i 0 = 1 → y.getD i 0 = 1 := fun i hi hm e => by
      obtain ⟨g1, g2, -⟩ := h.inn i hi e
      refine (hy.one i hi).2 fun k hk => ?_
      obtain ⟨e1, e2⟩ := g2 k hk
      exact (ih k (at_lt hix hk).1 (by omega)).2 e1
    refine fun i hi hm => ⟨A i hi hm, fun e => ?_⟩
    obtain ⟨g1, ⟨k, hk, e1, e2⟩, -⟩ := h.out i hi e
    exact (hy.two i hi).2 ⟨k, hk, A k (at_lt hix hk).1 (by omega) e1⟩
theorem GSpec.least2 {lab rk y : List Int} (h : GSpec N ps lab rk) (hy : CmpG N ps y) {i : Nat} (hi : i < N) (e : lab.getD i 0 = 1 ∨ lab.getD i 0 = 2) : lab.getD i 0 = y.getD i 0 := by
  obtain ⟨h1, h2⟩ := h.least hix hy _ i hi (Nat.le_refl _)
  rcases e with e | e
  · rw [e, h1 e]
  · rw [e, h2 e]
/-- Ranks that prove a labelling. -/
structure Prov (N : Nat) (ps : List (Int × Int)) (l r : List Int) : Prop where
  inn : ∀ i, i < N → l.getD i 0 = 1 → 1 ≤ r.getD i 0 ∧ ∀ k, At ps k i → r.getD k 0 < r.getD i 0
  out : ∀ i, i < N → l.getD i 0 = 2 → ∃ k, At ps k i ∧ l.getD k 0 = 1 ∧ 1 ≤ r.getD k 0 ∧ r.getD k 0 ≤ r.getD i 0
omit hix in
theorem GSpec.prov {lab rk : List Int} (h : GSpec N ps lab rk) : Prov N ps lab rk := by
  refine ⟨fun i hi e => ?_, fun i hi e => ?_⟩
  · obtain ⟨g1, g2, -⟩ := h.inn i hi e
    exact ⟨g1, fun k hk => (g2 k hk).2⟩
  · obtain ⟨g1, ⟨k, hk, e1, e2⟩, -⟩ := h.out i hi e
    exact ⟨k, hk, e1, by omega, by omega⟩
theorem prov_in {lab rk z r : List Int} (h : GSpec N ps lab rk) (hz : CmpG N ps z) (hp : Prov N ps z r) : ∀ (m : Nat) (i : Nat), i < N → (r.getD i 0).toNat ≤ m → (z.getD i 0 = 1 → lab.getD i 0 = 1) ∧ (z.getD i 0 = 2 → lab.getD i 0 = 2) := by
  have hc := h.complete
  intro m
  induction m with
  | zero =>
    intro i hi hm
    exact ⟨fun e => by have := (hp.inn i hi e).1; omega, fun e => by obtain ⟨k, -, -, h1, h2⟩ := hp.out i hi e; omega⟩
  | succ m ih =>
    have A : ∀ i, i < N → (r.getD i 0).toNat ≤ m + 1 → z.getD i 0 = 1 → lab.getD i 0 = 1 := fun i hi hm e => by
      obtain ⟨g1, g2⟩ := hp.inn i hi e
      refine (hc.one i hi).2 fun k hk => ?_
      have e2 := (hz.one i hi).1 e k hk
      have := g2 k hk
      exact (ih k (at_lt hix hk).1 (by omega)).2 e2
    refine fun i hi hm => ⟨A i hi hm, fun e => ?_⟩
    obtain ⟨k, hk, e1, h1, h2⟩ := hp.out i hi e
    exact (hc.two i hi).2 ⟨k, hk, A k (at_lt hix hk).1 (by omega) e1⟩
/-- No ranks prove another complete labelling. -/
theorem prov_same {lab rk z r : List Int} (h : GSpec N ps lab rk) (hz : CmpG N ps z) (hp : Prov N ps z r) : lab = z := by
  refine getD_eq h.ll hz.len fun i hi => ?_
  rcases h.lo i hi with e | e | e
  · exact h.least2 hix hz hi (.inl e)
  · exact h.least2 hix hz hi (.inr e)
  · obtain ⟨k1, k2⟩ := prov_in hix h hz hp _ i hi (Nat.le_refl _)
    rcases hz.ok.get (i := i) (by rw [hz.len]; exact hi) with f | f | f
    · have := k1 f; omega
    · have := k2 f; omega
    · omega
/-- Without an undecided node it is the only complete labelling. -/
theorem only_complete {lab rk z : List Int} (h : GSpec N ps lab rk) (hn : ∀ i, i < N → lab.getD i 0 ≠ 3) (hz : CmpG N ps z) : lab = z := by
  refine getD_eq h.ll hz.len fun i hi => h.least2 hix hz hi ?_
  rcases h.lo i hi with e | e | e
  · exact .inl e
  · exact .inr e
  · exact absurd e (hn i hi)
/-- Where attacks go upwards alone nothing is undecided. -/
theorem up_decided {lab rk : List Int} (h : GSpec N ps lab rk) (hup : ∀ k i, At ps k i → k < i) : ∀ i, i < N → lab.getD i 0 ≠ 3 := by
  intro i
  induction i using Nat.strongRecOn with
  | _ i ih =>
    intro hi e
    obtain ⟨-, ⟨k, hk, hk3⟩, -⟩ := h.und i hi e
    exact ih k (hup k i hk) (at_lt hix hk).1 hk3
end
end Go.Proofs.YtfiaoibfejginaaDoor
