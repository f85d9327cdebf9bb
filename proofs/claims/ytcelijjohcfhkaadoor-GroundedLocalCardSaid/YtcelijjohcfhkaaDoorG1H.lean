/- What Induced does, as mathematics: parts of parts. -/
import Derived.Test.YtcelijjohcfhkaaDoorG1D
import Derived.Test.YtcelijjohcfhkaaDoorG0N
namespace Go.Proofs.YtcelijjohcfhkaaDoor
set_option linter.unusedVariables false
set_option linter.unusedSimpArgs false
open Go Go.RowKit Go.Sort

/-- An ascending list of numbers below n. -/
structure Asc (n : Nat) (l : List Nat) : Prop where
  up : l.Pairwise fun a b => a < b
  lt : ∀ x ∈ l, x < n

theorem asc_unique : ∀ {l r : List Nat}, l.Pairwise (fun a b => a < b) → r.Pairwise (fun a b => a < b) → (∀ x, x ∈ l ↔ x ∈ r) → l = r := by
  intro l r hl hr h
  have n1 : l.Nodup := hl.imp fun h => Nat.ne_of_lt h
  have n2 : r.Nodup := hr.imp fun h => Nat.ne_of_lt h
  exact List.Perm.eq_of_pairwise (le := fun a b => a ≤ b) (fun a b _ _ h1 h2 => Nat.le_antisymm h1 h2) (hl.imp fun h => Nat.le_of_lt h) (hr.imp fun h => Nat.le_of_lt h) ((List.perm_ext_iff_of_nodup n1 n2).2 h)
theorem range_up (n : Nat) : (List.range n).Pairwise fun a b => a < b := List.pairwise_lt_range
theorem members_up (S : BitVec 64) : (members S).Pairwise fun a b => a < b := (range_up 64).sublist List.filter_sublist

theorem kept_bit (n : Nat) (hn : n ≤ 64) (l : List Nat) (hl : ∀ x ∈ l, x < n) (j : Nat) : (keptB (n : Int) (ints l)).getLsbD j = decide (j ∈ l) := by
  have e : keptB (n : Int) (ints l) = setOf l := by
    have gen : ∀ (l : List Nat) (s : BitVec 64), (∀ x ∈ l, x < n) → (ints l).foldl (fun s z => if ixB z (n : Int) = true then s ||| oneB z.toNat else s) s = l.foldl (fun c i => c ||| oneB i) s := by
      intro l
      induction l with
      | nil => intro s _; rfl
      | cons x r ih =>
        intro s h
        have hx := h x (List.mem_cons_self ..)
        have : ixB (x : Int) (n : Int) = true := by unfold ixB; simp; omega
        show List.foldl _ (if ixB (Int.ofNat x) (n : Int) = true then s ||| oneB (Int.ofNat x).toNat else s) (ints r) = _
        rw [show (Int.ofNat x) = (x : Int) from rfl, if_pos this, Int.toNat_natCast]
        exact ih _ (fun y hy => h y (List.mem_cons_of_mem _ hy))
    exact gen l 0#64 hl
  rw [e]
  exact setOf_bit l j (fun x hx => by have := hl x hx; omega)
theorem kept_members (n : Nat) (hn : n ≤ 64) (l : List Nat) (h : Asc n l) : members (keptB (n : Int) (ints l)) = l :=
  asc_unique (members_up _) h.up fun x => by
    rw [mem_members, kept_bit n hn l h.lt]
    simp only [decide_eq_true_eq]
    constructor
    · exact fun h => h.2
    · exact fun hx => ⟨by have := h.lt x hx; omega, hx⟩

theorem mask_bit {x : Nat} (hx : x < 64) (j : Nat) : (oneB x - 1#64).getLsbD j = decide (j < x) := by
  show (oneB x - 1#64).toNat.testBit j = _
  rw [sub_one_bv (one_ne hx), one_toNat hx, Nat.testBit_two_pow_sub_one]
/-- The new number is the number of lesser ones. -/
theorem renum_count (S : BitVec 64) {x : Nat} (hx : x < 64) : renum S x = ((members S).filter fun j => decide (j < x)).length := by
  unfold renum
  have e : members (S &&& (oneB x - 1#64)) = (members S).filter fun j => decide (j < x) := by
    unfold members
    rw [List.filter_filter]
    apply List.filter_congr
    intro j _
    rw [BitVec.getLsbD_and, mask_bit hx, Bool.and_comm]
  rw [e]
theorem filter_lt_take : ∀ (l : List Nat) (i : Nat) (h : i < l.length), l.Pairwise (fun a b => a < b) → l.filter (fun j => decide (j < l[i])) = l.take i := by
  intro l i h hl
  have hsp : l = l.take i ++ l.drop i := (List.take_append_drop i l).symm
  have h1 : (l.take i).filter (fun j => decide (j < l[i])) = l.take i := by
    rw [List.filter_eq_self]
    intro a ha
    obtain ⟨k, hk, rfl⟩ := List.getElem_of_mem ha
    rw [List.length_take] at hk
    rw [List.getElem_take]
    rw [List.pairwise_iff_getElem] at hl
    exact decide_eq_true (hl k i (by omega) h (by omega))
  have h2 : (l.drop i).filter (fun j => decide (j < l[i])) = [] := by
    rw [List.filter_eq_nil_iff]
    intro a ha
    obtain ⟨k, hk, rfl⟩ := List.getElem_of_mem ha
    rw [List.length_drop] at hk
    rw [List.getElem_drop, decide_eq_true_iff]
    rw [List.pairwise_iff_getElem] at hl
    by_cases e : k = 0
    · subst e; simp
    · have := hl i (i + k) h (by omega) (by omega)
      omega
  have h3 : ∀ (p : Nat → Bool), l.filter p = (l.take i).filter p ++ (l.drop i).filter p := fun p => by
    rw [← List.filter_append, List.take_append_drop]
  rw [h3, h1, h2, List.append_nil]
/-- The i-th of the list gets the number i. -/
theorem renum_at {n : Nat} (hn : n ≤ 64) {l : List Nat} (h : Asc n l) {i : Nat} (hi : i < l.length) : renum (keptB (n : Int) (ints l)) l[i] = i := by
  have hx := h.lt _ (List.getElem_mem hi)
  rw [renum_count _ (by omega), kept_members n hn l h, filter_lt_take l i hi h.up, List.length_take]
  omega

theorem ind_N {n : Nat} (hn : n ≤ 64) {l : List Nat} (h : Asc n l) : indN (n : Int) (ints l) = (l.length : Int) := by
  unfold indN
  rw [kept_members n hn l h]
/-- What is an attack of the part. -/
theorem mem_ind {n : Nat} (hn : n ≤ 40) {ps : List (Int × Int)} (hok : GOk (n : Int) ps) {l : List Nat} (h : Asc n l) {a b : Nat} (ha : a < l.length) (hb : b < l.length) : ((a : Int), (b : Int)) ∈ indL (n : Int) ps (ints l) ↔ ((l[a] : Int), (l[b] : Int)) ∈ ps := by
  unfold indL partL
  rw [List.mem_map]
  constructor
  · rintro ⟨p, hp, he⟩
    rw [List.mem_filter] at hp
    obtain ⟨hp, hk⟩ := hp
    obtain ⟨⟨i1, i2⟩, i3, i4⟩ := hok.ix p hp
    rw [kept_bit n (by omega) l h.lt, kept_bit n (by omega) l h.lt] at hk
    simp only [Bool.and_eq_true, decide_eq_true_eq] at hk
    obtain ⟨k1, k2⟩ := hk
    obtain ⟨i, hi, e1⟩ := List.getElem_of_mem k1
    obtain ⟨j, hj, e2⟩ := List.getElem_of_mem k2
    rw [← e1, ← e2, renum_at (by omega) h hi, renum_at (by omega) h hj] at he
    injection he with he1 he2
    have q1 : i = a := by omega
    have q2 : j = b := by omega
    subst q1 q2
    rw [e1, e2]
    obtain ⟨p1, p2⟩ := p
    simp only at i1 i3 hp ⊢
    rw [Int.toNat_of_nonneg i1, Int.toNat_of_nonneg i3]
    exact hp
  · intro hp
    refine ⟨_, List.mem_filter.2 ⟨hp, ?_⟩, ?_⟩
    · rw [kept_bit n (by omega) l h.lt, kept_bit n (by omega) l h.lt]
      simp
    · simp only [Int.toNat_natCast]
      rw [renum_at (by omega) h ha, renum_at (by omega) h hb]
/-- The numbering is ascending on what is kept. -/
theorem renum_lt {n : Nat} (hn : n ≤ 64) {l : List Nat} (h : Asc n l) {x y : Nat} (hx : x ∈ l) (hy : y ∈ l) (hxy : x < y) : renum (keptB (n : Int) (ints l)) x < renum (keptB (n : Int) (ints l)) y := by
  obtain ⟨i, hi, rfl⟩ := List.getElem_of_mem hx
  obtain ⟨j, hj, rfl⟩ := List.getElem_of_mem hy
  rw [renum_at hn h hi, renum_at hn h hj]
  have hup := h.up
  rw [List.pairwise_iff_getElem] at hup
  apply Classical.byContradiction
  intro hc
  by_cases e : j = i
  · subst e; omega
  · have := hup j i hj hi (by omega)
    omega
theorem ind_ok {n : Nat} (hn : n ≤ 40) {ps : List (Int × Int)} (hok : GOk (n : Int) ps) {l : List Nat} (h : Asc n l) (hl : l.length ≤ 40) : GOk (l.length : Int) (indL (n : Int) ps (ints l)) := by
  have hk : ∀ p ∈ ps.filter (fun p => (keptB (n : Int) (ints l)).getLsbD p.1.toNat && (keptB (n : Int) (ints l)).getLsbD p.2.toNat), p ∈ ps ∧ p.1.toNat ∈ l ∧ p.2.toNat ∈ l := fun p hp => by
    rw [List.mem_filter, kept_bit n (by omega) l h.lt, kept_bit n (by omega) l h.lt] at hp
    simpa [and_assoc] using hp
  refine ⟨by omega, by omega, fun q hq => ?_, ?_⟩
  · obtain ⟨p, hp, rfl⟩ := List.mem_map.1 hq
    obtain ⟨-, k1, k2⟩ := hk p hp
    obtain ⟨i, hi, e1⟩ := List.getElem_of_mem k1
    obtain ⟨j, hj, e2⟩ := List.getElem_of_mem k2
    rw [← e1, ← e2, renum_at (by omega) h hi, renum_at (by omega) h hj]
    simp only
    omega
  · unfold indL partL
    rw [List.pairwise_map]
    have h2 := hok.up.sublist (List.filter_sublist (p := fun p : Int × Int => (keptB (n : Int) (ints l)).getLsbD p.1.toNat && (keptB (n : Int) (ints l)).getLsbD p.2.toNat))
    refine List.Pairwise.imp_of_mem (fun {p q} hp hq hlt => ?_) h2
    obtain ⟨hpm, p1, p2⟩ := hk p hp
    obtain ⟨hqm, q1, q2⟩ := hk q hq
    obtain ⟨⟨a1, a2⟩, a3, a4⟩ := hok.ix p hpm
    obtain ⟨⟨b1, b2⟩, b3, b4⟩ := hok.ix q hqm
    rw [geP_lt, lt_iff] at hlt ⊢
    simp only
    rcases hlt with h3 | ⟨h3, h4⟩
    · left
      have := renum_lt (by omega) h p1 q1 (by omega : p.1.toNat < q.1.toNat)
      omega
    · right
      rw [h3]
      have := renum_lt (by omega) h p2 q2 (by omega : p.2.toNat < q.2.toNat)
      exact ⟨rfl, by omega⟩
/-- The part with all nodes. -/
theorem ind_all {n : Nat} (hn : n ≤ 40) {ps : List (Int × Int)} (hok : GOk (n : Int) ps) : indL (n : Int) ps (ints (List.range n)) = ps := by
  have h : Asc n (List.range n) := ⟨range_up n, fun x hx => List.mem_range.1 hx⟩
  unfold indL partL
  have e1 : ps.filter (fun p => (keptB (n : Int) (ints (List.range n))).getLsbD p.1.toNat && (keptB (n : Int) (ints (List.range n))).getLsbD p.2.toNat) = ps := by
    rw [List.filter_eq_self]
    intro p hp
    obtain ⟨⟨a1, a2⟩, a3, a4⟩ := hok.ix p hp
    rw [kept_bit n (by omega) _ h.lt, kept_bit n (by omega) _ h.lt]
    simp
    omega
  rw [e1]
  have e2 : ∀ p ∈ ps, ((renum (keptB (n : Int) (ints (List.range n))) p.1.toNat : Int), (renum (keptB (n : Int) (ints (List.range n))) p.2.toNat : Int)) = p := fun p hp => by
    obtain ⟨⟨a1, a2⟩, a3, a4⟩ := hok.ix p hp
    have r : ∀ x, x < n → renum (keptB (n : Int) (ints (List.range n))) x = x := fun x hx => by
      have := renum_at (by omega) h (i := x) (by rw [List.length_range]; exact hx)
      rwa [List.getElem_range] at this
    rw [r _ (by omega), r _ (by omega)]
    obtain ⟨p1, p2⟩ := p
    simp only at a1 a3 ⊢
    rw [Int.toNat_of_nonneg a1, Int.toNat_of_nonneg a3]
  conv => rhs; rw [← List.map_id ps]
  exact List.map_congr_left e2
/-- The nodes that are kept of kept ones. -/
def pickN (l : List Nat) (f : List Nat) : List Nat := f.map fun i => l.getD i 0
theorem pick_asc {n : Nat} {l f : List Nat} (h : Asc n l) (hf : Asc l.length f) : Asc n (pickN l f) := by
  have hg : ∀ i, i < l.length → ∃ hi : i < l.length, l.getD i 0 = l[i] := fun i hi => ⟨hi, by rw [List.getD_eq_getElem?_getD, List.getElem?_eq_getElem hi]; rfl⟩
  refine ⟨?_, fun x hx => ?_⟩
  · unfold pickN
    rw [List.pairwise_map]
    refine List.Pairwise.imp_of_mem (fun {a b} ha hb hab => ?_) hf.up
    obtain ⟨h1, e1⟩ := hg a (hf.lt a ha)
    obtain ⟨h2, e2⟩ := hg b (hf.lt b hb)
    rw [e1, e2]
    have := h.up
    rw [List.pairwise_iff_getElem] at this
    exact this a b h1 h2 hab
  · obtain ⟨i, hi, rfl⟩ := List.mem_map.1 hx
    obtain ⟨h1, e1⟩ := hg i (hf.lt i hi)
    rw [e1]
    exact h.lt _ (List.getElem_mem h1)
/-- A part of a part is the part with the nodes of both. -/
theorem ind_ind {n : Nat} (hn : n ≤ 40) {ps : List (Int × Int)} (hok : GOk (n : Int) ps) {l f : List Nat} (h : Asc n l) (hl : l.length ≤ 40) (hf : Asc l.length f) :
    indL (l.length : Int) (indL (n : Int) ps (ints l)) (ints f) = indL (n : Int) ps (ints (pickN l f)) := by
  have hp := pick_asc h hf
  have hg : ∀ i (hi : i < l.length), l.getD i 0 = l[i] := fun i hi => by rw [List.getD_eq_getElem?_getD, List.getElem?_eq_getElem hi]; rfl
  have hmem : ∀ i (hi : i < l.length), l[i] ∈ pickN l f ↔ i ∈ f := fun i hi => by
    unfold pickN
    rw [List.mem_map]
    constructor
    · rintro ⟨j, hj, e⟩
      have hjl := hf.lt j hj
      rw [hg j hjl] at e
      have hup := h.up
      rw [List.pairwise_iff_getElem] at hup
      rcases Nat.lt_trichotomy i j with hlt | rfl | hgt
      · have := hup i j hi hjl hlt; omega
      · exact hj
      · have := hup j i hjl hi hgt; omega
    · exact fun hi' => ⟨i, hi', hg i hi⟩
  have hren : ∀ i (hi : i < l.length), i ∈ f → renum (keptB (l.length : Int) (ints f)) i = renum (keptB (n : Int) (ints (pickN l f))) l[i] := fun i hi hif => by
    obtain ⟨k, hk, rfl⟩ := List.getElem_of_mem hif
    rw [renum_at (by omega) hf hk]
    have hk' : k < (pickN l f).length := by unfold pickN; rw [List.length_map]; exact hk
    have e0 : (pickN l f)[k] = l.getD f[k] 0 := List.getElem_map _
    have e : (pickN l f)[k] = l[f[k]] := e0.trans (hg _ hi)
    rw [← e, renum_at (by omega) hp hk']
  unfold indL partL
  rw [List.filter_map, List.filter_filter, List.map_map]
  have e1 : ps.filter (fun a => ((fun p : Int × Int => (keptB (l.length : Int) (ints f)).getLsbD p.1.toNat && (keptB (l.length : Int) (ints f)).getLsbD p.2.toNat) ∘ fun p : Int × Int => ((renum (keptB (n : Int) (ints l)) p.1.toNat : Int), (renum (keptB (n : Int) (ints l)) p.2.toNat : Int))) a && ((keptB (n : Int) (ints l)).getLsbD a.1.toNat && (keptB (n : Int) (ints l)).getLsbD a.2.toNat))
      = ps.filter (fun p => (keptB (n : Int) (ints (pickN l f))).getLsbD p.1.toNat && (keptB (n : Int) (ints (pickN l f))).getLsbD p.2.toNat) := by
    apply List.filter_congr
    intro p hpm
    obtain ⟨⟨a1, a2⟩, a3, a4⟩ := hok.ix p hpm
    have one : ∀ x : Nat, ((keptB (l.length : Int) (ints f)).getLsbD (renum (keptB (n : Int) (ints l)) x) && (keptB (n : Int) (ints l)).getLsbD x) = (keptB (n : Int) (ints (pickN l f))).getLsbD x := fun x => by
      rw [kept_bit l.length (by omega) f hf.lt, kept_bit n (by omega) l h.lt, kept_bit n (by omega) _ hp.lt]
      rw [Bool.eq_iff_iff]
      simp only [Bool.and_eq_true, decide_eq_true_eq]
      constructor
      · rintro ⟨h1, h2⟩
        obtain ⟨i, hi, rfl⟩ := List.getElem_of_mem h2
        rw [renum_at (by omega) h hi] at h1
        exact (hmem i hi).2 h1
      · intro h1
        have h1' := h1
        unfold pickN at h1
        obtain ⟨j, hj, e⟩ := List.mem_map.1 h1
        have hjl := hf.lt j hj
        rw [hg j hjl] at e
        subst e
        rw [renum_at (by omega) h hjl]
        exact ⟨hj, List.getElem_mem hjl⟩
    have o1 := one p.1.toNat
    have o2 := one p.2.toNat
    simp only [Function.comp, Int.toNat_natCast]
    rw [← o1, ← o2]
    generalize (keptB (l.length : Int) (ints f)).getLsbD (renum (keptB (n : Int) (ints l)) p.1.toNat) = x1
    generalize (keptB (l.length : Int) (ints f)).getLsbD (renum (keptB (n : Int) (ints l)) p.2.toNat) = x2
    generalize (keptB (n : Int) (ints l)).getLsbD p.1.toNat = y1
    generalize (keptB (n : Int) (ints l)).getLsbD p.2.toNat = y2
    cases x1 <;> cases x2 <;> cases y1 <;> cases y2 <;> rfl
  rw [e1]
  apply List.map_congr_left
  intro p hpm
  rw [List.mem_filter, kept_bit n (by omega) _ hp.lt, kept_bit n (by omega) _ hp.lt] at hpm
  simp only [Bool.and_eq_true, decide_eq_true_eq] at hpm
  obtain ⟨-, k1, k2⟩ := hpm
  have two : ∀ x : Nat, x ∈ pickN l f → renum (keptB (l.length : Int) (ints f)) (renum (keptB (n : Int) (ints l)) x) = renum (keptB (n : Int) (ints (pickN l f))) x := fun x hx => by
    obtain ⟨j, hj, e⟩ := List.mem_map.1 hx
    have hjl := hf.lt j hj
    rw [hg j hjl] at e
    subst e
    rw [renum_at (by omega) h hjl]
    exact hren j hjl hj
  simp only [Function.comp, Int.toNat_natCast]
  rw [two _ k1, two _ k2]
end Go.Proofs.YtcelijjohcfhkaaDoor
