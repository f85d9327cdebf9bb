/- Label and Ranks; the chapter's first example. The grounded labelling is complete, and the least complete one; what ranks prove. -/
import Derived.Test.YtghnojmaciljoaaZ1M1G
import Derived.Test.YtghnojmaciljoaaL1L

namespace Go.Proofs.Ytghnojmaciljoaa
set_option linter.unusedVariables false
set_option linter.unusedSimpArgs false
open Go Go.RowKit Go.Sort

/-- What Label and Ranks give. -/
def LabOut12 (N : Nat) (ps : List (Int × Int)) (w : World) (e : Ending) (w' : World) : Prop := ∃ (L : Nat) (lab rk : List Int), e = .returned (.slice (some ⟨L, 0, none⟩) N N) ∧ IR w' L lab ∧ GSpec N ps lab rk ∧ Below w.heap.size w w'
def RkOut12 (N : Nat) (ps : List (Int × Int)) (w : World) (e : Ending) (w' : World) : Prop := ∃ (L : Nat) (lab rk : List Int), e = .returned (.slice (some ⟨L, 0, none⟩) N N) ∧ IR w' L rk ∧ GSpec N ps lab rk ∧ Below w.heap.size w w'

set_option maxRecDepth 100000 in
set_option maxHeartbeats 1000000 in
theorem uLabel_any (N : Nat) (a : Option Addr) (c : Nat) (ps : List (Int × Int)) (w : World) (h : PairsAt w (.slice a ps.length c) ps) (hok : GOk (N : Int) ps) (hpl : ps.length ≤ 2000) :
    Calls Try.prog 11 #[.agg #[.int .i64 (N : Int), .slice a ps.length c]] w (LabOut12 N ps w) := by
  have hgr := bgrow w (.cells #[.int .i64 (N : Int), .slice a ps.length c] 27)
  have H1 := hidIt (h.below hgr)
  have HB := hidIt hgr
  have HX := hidIt (heap_alloc_new w (.cells #[.int .i64 (N : Int), .slice a ps.length c] 27))
  clear h hgr
  go_enter Try.func11, Try.ntmps11
  go_upto_region 1 with (fail)
  generalize (w.alloc (.cells #[.int .i64 (N : Int), .slice a ps.length c] 27)) = w1 at *
  obtain ⟨x0, x1⟩ := And.intro (cell_two0 HX.out) (cell_two1 HX.out)
  have lx := lt_of_block HX.out
  go_wp2_with fail
  refine (build_any N a c ps w1 H1.out hok hpl).mono ?_
  rintro e w2 ⟨L, R, lab, rk, rfl, hl, hr, hs, hb⟩
  have HL := hidIt hl
  have HS := hidIt hs
  have HB2 := hidIt (HB.out.trans (Below.mono hb HB.out.size))
  clear hl hr hs hb
  go_wp2_with fail
  go_ret
  exact ⟨L, lab, rk, rfl, HL.out, HS.out, HB2.out⟩
set_option maxRecDepth 100000 in
set_option maxHeartbeats 1000000 in
theorem uRanks_any (N : Nat) (a : Option Addr) (c : Nat) (ps : List (Int × Int)) (w : World) (h : PairsAt w (.slice a ps.length c) ps) (hok : GOk (N : Int) ps) (hpl : ps.length ≤ 2000) :
    Calls Try.prog 13 #[.agg #[.int .i64 (N : Int), .slice a ps.length c]] w (RkOut12 N ps w) := by
  have hgr := bgrow w (.cells #[.int .i64 (N : Int), .slice a ps.length c] 27)
  have H1 := hidIt (h.below hgr)
  have HB := hidIt hgr
  have HX := hidIt (heap_alloc_new w (.cells #[.int .i64 (N : Int), .slice a ps.length c] 27))
  clear h hgr
  go_enter Try.func13, Try.ntmps13
  go_upto_region 1 with (fail)
  generalize (w.alloc (.cells #[.int .i64 (N : Int), .slice a ps.length c] 27)) = w1 at *
  obtain ⟨x0, x1⟩ := And.intro (cell_two0 HX.out) (cell_two1 HX.out)
  have lx := lt_of_block HX.out
  go_wp2_with fail
  refine (build_any N a c ps w1 H1.out hok hpl).mono ?_
  rintro e w2 ⟨L, R, lab, rk, rfl, hl, hr, hs, hb⟩
  have HL := hidIt hr
  have HS := hidIt hs
  have HB2 := hidIt (HB.out.trans (Below.mono hb HB.out.size))
  clear hl hr hs hb
  go_wp2_with fail
  go_ret
  exact ⟨R, lab, rk, rfl, HL.out, HS.out, HB2.out⟩

theorem exC_at {k i : Nat} : At exC k i ↔ (k = 0 ∧ i = 1) ∨ (k = 1 ∧ i = 2) := by
  unfold At exC
  simp only [List.mem_cons, Prod.mk.injEq, List.not_mem_nil, or_false]
  omega
theorem exC_spec : GSpec 3 exC [1, 2, 1] [1, 1, 2] := by
  refine ⟨rfl, rfl, fun i hi => ?_, fun i hi h => ?_, fun i hi h => ?_, fun i hi h => ?_⟩
  · match i, hi with
    | 0, _ => exact .inl rfl
    | 1, _ => exact .inr (.inl rfl)
    | 2, _ => exact .inl rfl
  · match i, hi with
    | 0, _ => exact ⟨by decide, fun k hk => by have := exC_at.1 hk; omega, .inl rfl⟩
    | 1, _ => exact absurd h (by decide)
    | 2, _ =>
      refine ⟨by decide, fun k hk => ?_, .inr ⟨1, exC_at.2 (.inr ⟨rfl, rfl⟩), rfl⟩⟩
      obtain rfl : k = 1 := by have := exC_at.1 hk; omega
      exact ⟨rfl, by decide⟩
  · match i, hi with
    | 0, _ => exact absurd h (by decide)
    | 1, _ =>
      refine ⟨by decide, ⟨0, exC_at.2 (.inl ⟨rfl, rfl⟩), rfl, rfl⟩, fun k hk _ => ?_⟩
      obtain rfl : k = 0 := by have := exC_at.1 hk; omega
      decide
    | 2, _ => exact absurd h (by decide)
  · match i, hi with
    | 0, _ => exact absurd h (by decide)
    | 1, _ => exact absurd h (by decide)
    | 2, _ => exact absurd h (by decide)

set_option maxRecDepth 100000 in
set_option maxHeartbeats 2000000 in
theorem awake12_any (w : World) : Calls Try.prog 15 #[] w fun e w' => e = .returned (.bool true) ∧ Below w.heap.size w w' := by
  have hg1 := bgrow w (.cells #[.int .i64 0, .int .i64 1, .int .i64 1, .int .i64 2] 43)
  have hP1 := heap_alloc_new w (.cells #[.int .i64 0, .int .i64 1, .int .i64 1, .int .i64 2] 43)
  have hg2 := bgrow (w.alloc (.cells #[.int .i64 0, .int .i64 1, .int .i64 1, .int .i64 2] 43)) (.cells #[.int .i64 3, .slice (some ⟨w.heap.size, 0, none⟩) 2 2] 27)
  have HX := hidIt (heap_alloc_new (w.alloc (.cells #[.int .i64 0, .int .i64 1, .int .i64 1, .int .i64 2] 43)) (.cells #[.int .i64 3, .slice (some ⟨w.heap.size, 0, none⟩) 2 2] 27))
  have HP := hidIt (pairs_blk (ps := exC) (c := 2) (blk_kept2 hP1 hg2) (by decide) (by decide))
  have HB := hidIt (hg1.trans (Below.mono hg2 hg1.size))
  clear hg1 hP1 hg2
  go_enter Try.func15, Try.ntmps15
  go_upto_region 2 with (fail)
  have hsz : (w.alloc (.cells #[.int .i64 0, .int .i64 1, .int .i64 1, .int .i64 2] 43)).heap.size = w.heap.size + 1 := by simp
  rw [hsz] at HX
  clear hsz
  generalize ((w.alloc (.cells #[.int .i64 0, .int .i64 1, .int .i64 1, .int .i64 2] 43)).alloc (.cells #[.int .i64 3, .slice (some ⟨w.heap.size, 0, none⟩) 2 2] 27)) = w1 at *
  obtain ⟨x0, x1⟩ := And.intro (cell_two0 HX.out) (cell_two1 HX.out)
  have lx := lt_of_block HX.out
  go_wp2_with fail
  refine (uLabel_any 3 _ 2 exC w1 HP.out exC_ok (by decide)).mono ?_
  rintro e w2 ⟨L, lab, rk, rfl, hl, hs, hb⟩
  obtain ⟨rfl, rfl⟩ := hs.uniq exC_ok.ix exC_spec
  have hg3 := bgrow w2 (.cells #[.int .i64 1, .int .i64 2, .int .i64 1] 3)
  have HI3 := hidIt (ints_blk (zs := [1, 2, 1]) (c := 3) (heap_alloc_new w2 (.cells #[.int .i64 1, .int .i64 2, .int .i64 1] 3)) (by decide) (by decide))
  have HL3 := hidIt ((hl.go hg3).il (c := 3) (by decide) (by decide))
  have HX3 := hidIt (blk_kept2 (blk_kept2 HX.out hb) hg3)
  have HP3 := hidIt ((HP.out.below hb).below hg3)
  have HB2 := hidIt (HB.out.trans (Below.mono hb HB.out.size))
  have HB3 := hidIt (HB2.out.trans (Below.mono hg3 HB2.out.size))
  clear hl hs hb hg3 x0 x1 lx HX HP HB HB2
  go_wp2_with fail
  generalize (w2.alloc (.cells #[.int .i64 1, .int .i64 2, .int .i64 1] 3)) = w3 at *
  refine (kInts_any _ _ [1, 2, 1] [1, 2, 1] w3 HL3.out HI3.out (by decide) (by decide)).mono ?_
  rw [decide_eq_true rfl]
  rintro e w4 ⟨rfl, hb4⟩
  have HX4 := hidIt (blk_kept2 HX3.out hb4)
  have HP4 := hidIt (HP3.out.below hb4)
  have HB4 := hidIt (HB3.out.trans (Below.mono hb4 HB3.out.size))
  clear hb4 HX3 HP3 HB3 HI3 HL3
  obtain ⟨x0, x1⟩ := And.intro (cell_two0 HX4.out) (cell_two1 HX4.out)
  have lx := lt_of_block HX4.out
  go_wp2_with fail
  refine (uRanks_any 3 _ 2 exC w4 HP4.out exC_ok (by decide)).mono ?_
  rintro e w5 ⟨L2, lab, rk, rfl, hl, hs, hb⟩
  obtain ⟨rfl, rfl⟩ := hs.uniq exC_ok.ix exC_spec
  have hg6 := bgrow w5 (.cells #[.int .i64 1, .int .i64 1, .int .i64 2] 3)
  have HI6 := hidIt (ints_blk (zs := [1, 1, 2]) (c := 3) (heap_alloc_new w5 (.cells #[.int .i64 1, .int .i64 1, .int .i64 2] 3)) (by decide) (by decide))
  have HL6 := hidIt ((hl.go hg6).il (c := 3) (by decide) (by decide))
  have HB5 := hidIt (HB4.out.trans (Below.mono hb HB4.out.size))
  have HB6 := hidIt (HB5.out.trans (Below.mono hg6 HB5.out.size))
  clear hl hs hb hg6 x0 x1 lx HX4 HP4 HB4 HB5
  go_wp2_with fail
  generalize (w5.alloc (.cells #[.int .i64 1, .int .i64 1, .int .i64 2] 3)) = w6 at *
  refine (kInts_any _ _ [1, 1, 2] [1, 1, 2] w6 HL6.out HI6.out (by decide) (by decide)).mono ?_
  rw [decide_eq_true rfl]
  rintro e w7 ⟨rfl, hb7⟩
  have HB7 := hidIt (HB6.out.trans (Below.mono hb7 HB6.out.size))
  clear hb7
  go_wp2_with fail
  go_ret
  exact ⟨rfl, HB7.out⟩
end Go.Proofs.Ytghnojmaciljoaa

namespace Go.Proofs.Ytghnojmaciljoaa
set_option linter.unusedVariables false
set_option linter.unusedSimpArgs false
open Go Go.RowKit Go.Sort

/-- Is it a complete labelling? -/
def compB (N : Nat) (ps : List (Int × Int)) (l : List Int) : Bool := validB N l && decide ((illL N ps l).length = 0)
theorem cnt_pos {N : Nat} {ps : List (Int × Int)} (hix : ∀ p ∈ ps, (0 ≤ p.1 ∧ p.1 < (N : Int)) ∧ (0 ≤ p.2 ∧ p.2 < (N : Int))) (l : List Int) (i x : Nat) : 0 < ((cntLb ps l i x : Nat) : Int) ↔ ∃ k, At ps k i ∧ l.getD k 0 = (x : Int) := by
  unfold cntLb At
  constructor
  · intro h
    obtain ⟨p, hp⟩ := List.exists_mem_of_length_pos (l := ps.filter fun p => p.2 == (i : Int) && l.getD p.1.toNat 0 == (x : Int)) (by omega)
    obtain ⟨hp, hq⟩ := List.mem_filter.1 hp
    rw [Bool.and_eq_true, beq_iff_eq, beq_iff_eq] at hq
    have := hix p hp
    refine ⟨p.1.toNat, ?_, hq.2⟩
    have e : ((p.1.toNat : Int), (i : Int)) = p := Prod.ext (by simp only; omega) hq.1.symm
    rw [e]; exact hp
  · rintro ⟨k, hk, hl⟩
    have : 0 < (ps.filter fun p => p.2 == (i : Int) && l.getD p.1.toNat 0 == (x : Int)).length := by
      refine List.length_pos_of_mem (List.mem_filter.2 ⟨hk, ?_⟩)
      rw [Bool.and_eq_true, beq_iff_eq, beq_iff_eq]
      exact ⟨rfl, by rw [Int.toNat_natCast]; exact hl⟩
    omega
/-- A complete labelling, said by attackers. -/
structure CmpG (N : Nat) (ps : List (Int × Int)) (l : List Int) : Prop where
  len : l.length = N
  ok : LabOk l
  two : ∀ i, i < N → (l.getD i 0 = 2 ↔ ∃ k, At ps k i ∧ l.getD k 0 = 1)
  one : ∀ i, i < N → (l.getD i 0 = 1 ↔ ∀ k, At ps k i → l.getD k 0 = 2)
theorem LabOk.get {l : List Int} (h : LabOk l) {i : Nat} (hi : i < l.length) : l.getD i 0 = 1 ∨ l.getD i 0 = 2 ∨ l.getD i 0 = 3 := by
  rw [getD_at hi]; exact h _ (List.getElem_mem hi)
theorem leg_iff {N : Nat} {ps : List (Int × Int)} (hix : ∀ p ∈ ps, (0 ≤ p.1 ∧ p.1 < (N : Int)) ∧ (0 ≤ p.2 ∧ p.2 < (N : Int))) {l : List Int} (hl : l.length = N) (ho : LabOk l) {i : Nat} (hi : i < N) :
    l.getD i 0 = legL ps l i ↔ (l.getD i 0 = 2 ↔ ∃ k, At ps k i ∧ l.getD k 0 = 1) ∧ (l.getD i 0 = 1 ↔ ∀ k, At ps k i → l.getD k 0 = 2) := by
  have h1 := cnt_pos hix l i 1
  have h3 := cnt_pos hix l i 3
  have hk : ∀ k, At ps k i → l.getD k 0 = 1 ∨ l.getD k 0 = 2 ∨ l.getD k 0 = 3 := fun k hk => ho.get (by rw [hl]; exact (at_lt hix hk).1)
  unfold legL legC
  have hi3 := ho.get (i := i) (by omega)
  by_cases c1 : 0 < ((cntLb ps l i 1 : Nat) : Int)
  · rw [if_pos c1]
    obtain ⟨k, ha, hb⟩ := h1.1 c1
    have hb : l.getD k 0 = 1 := hb
    constructor
    · intro e
      exact ⟨⟨fun _ => ⟨k, ha, hb⟩, fun _ => e⟩, ⟨fun e1 => by omega, fun hall => by have := hall k ha; omega⟩⟩
    · intro ⟨e, _⟩
      exact e.2 ⟨k, ha, hb⟩
  · rw [if_neg c1]
    have n1 : ¬ ∃ k, At ps k i ∧ l.getD k 0 = 1 := fun h => c1 (h1.2 h)
    by_cases c3 : 0 < ((cntLb ps l i 3 : Nat) : Int)
    · rw [if_pos c3]
      obtain ⟨k, ha, hb⟩ := h3.1 c3
      have hb : l.getD k 0 = 3 := hb
      constructor
      · intro e
        exact ⟨⟨fun e2 => by omega, fun h => absurd h n1⟩, ⟨fun e1 => by omega, fun hall => by have := hall k ha; omega⟩⟩
      · intro ⟨e, f⟩
        rcases hi3 with g | g | g
        · have := f.1 g k ha; omega
        · exact absurd (e.1 g) n1
        · exact g
    · rw [if_neg c3]
      have n3 : ¬ ∃ k, At ps k i ∧ l.getD k 0 = 3 := fun h => c3 (h3.2 h)
      have all : ∀ k, At ps k i → l.getD k 0 = 2 := fun k ha => by
        rcases hk k ha with g | g | g
        · exact absurd ⟨k, ha, g⟩ n1
        · exact g
        · exact absurd ⟨k, ha, g⟩ n3
      constructor
      · intro e
        exact ⟨⟨fun e2 => by omega, fun h => absurd h n1⟩, ⟨fun _ => all, fun _ => e⟩⟩
      · intro ⟨_, f⟩
        exact f.2 all
theorem mem_illLM {N i : Nat} {ps : List (Int × Int)} {l : List Int} (hi : i < N) (hl : l.length = N) (ho : LabOk l) : i ∈ illL N ps l ↔ l.getD i 0 ≠ legL ps l i := by
  unfold illL
  rw [if_pos (validB_iff.2 ⟨hl, ho⟩)]
  unfold illTo
  rw [List.mem_filter, List.mem_range, decide_eq_true_eq]
  exact ⟨fun h => h.2, fun h => ⟨hi, h⟩⟩
theorem comp_iff {N : Nat} {ps : List (Int × Int)} (hix : ∀ p ∈ ps, (0 ≤ p.1 ∧ p.1 < (N : Int)) ∧ (0 ≤ p.2 ∧ p.2 < (N : Int))) {l : List Int} : compB N ps l = true ↔ CmpG N ps l := by
  unfold compB
  rw [Bool.and_eq_true, decide_eq_true_eq, validB_iff]
  constructor
  · rintro ⟨⟨hl, ho⟩, h0⟩
    have key : ∀ i, i < N → l.getD i 0 = legL ps l i := fun i hi => Classical.byContradiction fun hne => by
      have := (mem_illLM (ps := ps) hi hl ho).2 hne
      rw [List.eq_nil_of_length_eq_zero h0] at this
      cases this
    exact ⟨hl, ho, fun i hi => ((leg_iff hix hl ho hi).1 (key i hi)).1, fun i hi => ((leg_iff hix hl ho hi).1 (key i hi)).2⟩
  · intro h
    refine ⟨⟨h.len, h.ok⟩, ?_⟩
    have : illL N ps l = [] := by
      rw [List.eq_nil_iff_forall_not_mem]
      intro i hi
      have hiN : i < N := by
        unfold illL at hi
        rw [if_pos (validB_iff.2 ⟨h.len, h.ok⟩)] at hi
        exact List.mem_range.1 (List.mem_filter.1 hi).1
      exact (mem_illLM hiN h.len h.ok).1 hi ((leg_iff hix h.len h.ok hiN).2 ⟨h.two i hiN, h.one i hiN⟩)
    rw [this]; rfl

section
variable {N : Nat} {ps : List (Int × Int)} (hix : ∀ p ∈ ps, (0 ≤ p.1 ∧ p.1 < (N : Int)) ∧ (0 ≤ p.2 ∧ p.2 < (N : Int)))
include hix
omit hix in
theorem GSpec.complete {lab rk : List Int} (h : GSpec N ps lab rk) : CmpG N ps lab := by
  refine ⟨h.ll, fun x hx => ?_, fun i hi => ⟨fun e => ?_, fun ⟨k, hk, hk1⟩ => ?_⟩, fun i hi => ⟨fun e k hk => ((h.inn i hi e).2.1 k hk).1, fun hall => ?_⟩⟩
  · obtain ⟨i, hi, rfl⟩ := List.getElem_of_mem hx
    have := h.lo i (by rw [← h.ll]; exact hi)
    rwa [getD_at hi] at this
  · obtain ⟨-, ⟨k, hk, hk1, -⟩, -⟩ := h.out i hi e
    exact ⟨k, hk, hk1⟩
  · rcases h.lo i hi with e | e | e
    · have := ((h.inn i hi e).2.1 k hk).1; omega
    · exact e
    · exact absurd hk1 ((h.und i hi e).2.2 k hk)
  · rcases h.lo i hi with e | e | e
    · exact e
    · obtain ⟨-, ⟨k, hk, hk1, -⟩, -⟩ := h.out i hi e
      have := hall k hk; omega
    · obtain ⟨-, ⟨k, hk, hk3⟩, -⟩ := h.und i hi e
      have := hall k hk; omega
/-- What the grounded labelling decides every complete one decides so. -/
theorem GSpec.least {lab rk y : List Int} (h : GSpec N ps lab rk) (hy : CmpG N ps y) : ∀ (m : Nat) (i : Nat), i < N → (rk.getD i 0).toNat ≤ m → (lab.getD i 0 = 1 → y.getD i 0 = 1) ∧ (lab.getD i 0 = 2 → y.getD i 0 = 2) := by
  intro m
  induction m with
  | zero =>
    intro i hi hm
    exact ⟨fun e => by have := (h.inn i hi e).1; omega, fun e => by have := (h.out i hi e).1; omega⟩
  | succ m ih =>
    have A : ∀ i, i < N → (rk.getD i 0).toNat ≤ m + 1 → lab.getD i 0 = 1 → y.getD i 0 = 1 := fun i hi hm e => by
      obtain ⟨g1, g2, -⟩ := h.inn i hi e
      refine (hy.one i hi).2 fun k hk => ?_
      obtain ⟨e1, e2⟩ := g2 k hk
      exact (ih k (at_lt hix hk).1 (by omega)).2 e1
    refine fun i hi hm => ⟨A i hi hm, fun e => ?_⟩
    obtain ⟨g1, ⟨k, hk, e1, e2⟩, -⟩ := h.out i hi e
    exact (hy.two i hi).2 ⟨k, hk, A k (at_lt hix hk).1 (by omega) e1⟩
theorem GSpec.least2 {lab rk y : List Int} (h : GSpec N ps lab rk) (hy : CmpG N ps y) {i : Nat} (hi : i < N) (e : lab.getD i 0 = 1 ∨ lab.getD i 0 = 2) : lab.getD i 0 = y.getD i 0 := by
  obtain ⟨h1, h2⟩ := h.least hix hy _ i hi (Nat.le_refl _)
  rcases e with e | e
  · rw [e, h1 e]
  · rw [e, h2 e]
/-- Ranks that prove a labelling. -/
structure Prov (N : Nat) (ps : List (Int × Int)) (l r : List Int) : Prop where
  inn : ∀ i, i < N → l.getD i 0 = 1 → 1 ≤ r.getD i 0 ∧ ∀ k, At ps k i → r.getD k 0 < r.getD i 0
  out : ∀ i, i < N → l.getD i 0 = 2 → ∃ k, At ps k i ∧ l.getD k 0 = 1 ∧ 1 ≤ r.getD k 0 ∧ r.getD k 0 ≤ r.getD i 0
omit hix in
theorem GSpec.prov {lab rk : List Int} (h : GSpec N ps lab rk) : Prov N ps lab rk := by
  refine ⟨fun i hi e => ?_, fun i hi e => ?_⟩
  · obtain ⟨g1, g2, -⟩ := h.inn i hi e
    exact ⟨g1, fun k hk => (g2 k hk).2⟩
  · obtain ⟨g1, ⟨k, hk, e1, e2⟩, -⟩ := h.out i hi e
    exact ⟨k, hk, e1, by omega, by omega⟩
theorem prov_in {lab rk z r : List Int} (h : GSpec N ps lab rk) (hz : CmpG N ps z) (hp : Prov N ps z r) : ∀ (m : Nat) (i : Nat), i < N → (r.getD i 0).toNat ≤ m → (z.getD i 0 = 1 → lab.getD i 0 = 1) ∧ (z.getD i 0 = 2 → lab.getD i 0 = 2) := by
  have hc := h.complete
  intro m
  induction m with
  | zero =>
    intro i hi hm
    exact ⟨fun e => by have := (hp.inn i hi e).1; omega, fun e => by obtain ⟨k, -, -, h1, h2⟩ := hp.out i hi e; omega⟩
  | succ m ih =>
    have A : ∀ i, i < N → (r.getD i 0).toNat ≤ m + 1 → z.getD i 0 = 1 → lab.getD i 0 = 1 := fun i hi hm e => by
      obtain ⟨g1, g2⟩ := hp.inn i hi e
      refine (hc.one i hi).2 fun k hk => ?_
      have e2 := (hz.one i hi).1 e k hk
      have := g2 k hk
      exact (ih k (at_lt hix hk).1 (by omega)).2 e2
    refine fun i hi hm => ⟨A i hi hm, fun e => ?_⟩
    obtain ⟨k, hk, e1, h1, h2⟩ := hp.out i hi e
    exact (hc.two i hi).2 ⟨k, hk, A k (at_lt hix hk).1 (by omega) e1⟩
/-- No ranks prove another complete labelling. -/
theorem prov_same {lab rk z r : List Int} (h : GSpec N ps lab rk) (hz : CmpG N ps z) (hp : Prov N ps z r) : lab = z := by
  refine getD_eq h.ll hz.len fun i hi => ?_
  rcases h.lo i hi with e | e | e
  · exact h.least2 hix hz hi (.inl e)
  · exact h.least2 hix hz hi (.inr e)
  · obtain ⟨k1, k2⟩ := prov_in hix h hz hp _ i hi (Nat.le_refl _)
    rcases hz.ok.get (i := i) (by rw [hz.len]; exact hi) with f | f | f
    · have := k1 f; omega
    · have := k2 f; omega
    · omega
/-- Without an undecided node it is the only complete labelling. -/
theorem only_complete {lab rk z : List Int} (h : GSpec N ps lab rk) (hn : ∀ i, i < N → lab.getD i 0 ≠ 3) (hz : CmpG N ps z) : lab = z := by
  refine getD_eq h.ll hz.len fun i hi => h.least2 hix hz hi ?_
  rcases h.lo i hi with e | e | e
  · exact .inl e
  · exact .inr e
  · exact absurd e (hn i hi)
/-- Where attacks go upwards alone nothing is undecided. -/
theorem up_decided {lab rk : List Int} (h : GSpec N ps lab rk) (hup : ∀ k i, At ps k i → k < i) : ∀ i, i < N → lab.getD i 0 ≠ 3 := by
  intro i
  induction i using Nat.strongRecOn with
  | _ i ih =>
    intro hi e
    obtain ⟨-, ⟨k, hk, hk3⟩, -⟩ := h.und i hi e
    exact ih k (hup k i hk) (at_lt hix hk).1 hk3
end
end Go.Proofs.Ytghnojmaciljoaa
