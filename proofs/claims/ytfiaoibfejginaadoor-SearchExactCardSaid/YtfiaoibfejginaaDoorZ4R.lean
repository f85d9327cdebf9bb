/- Labellings as lists and as sets: the complete ones. search.Complete, of any graph. Naive sets as lists and as the search's labellings. search.Naive, of any graph. The law's graphs of pairs. The chapter's examples: awake answers true in whatever memory. -/
import Derived.Test.YtfiaoibfejginaaDoorZ4Q
import Derived.Test.YtfiaoibfejginaaDoorZ4L1K
import Derived.Test.YtfiaoibfejginaaDoorZ4N
import Derived.Test.YtfiaoibfejginaaDoorZ4D
import Derived.Test.YtfiaoibfejginaaDoorG0V
import Derived.Laws.Tables
import Derived.Deep.WholeRow
import Derived.Test.YtfiaoibfejginaaDoorZ4B
import Derived.Test.YtfiaoibfejginaaDoorG1F

namespace Go.Proofs.YtfiaoibfejginaaDoor
set_option linter.unusedVariables false
set_option linter.unusedSimpArgs false
open Go Go.RowKit Go.Sort

/-- The attackers of a node. -/
def inB (ps : List (Int × Int)) (i : Nat) : BitVec 64 := attB (ps.map fun p => (p.2, p.1)) i
theorem inB_bit {N : Nat} {ps : List (Int × Int)} (hok : GOk (N : Int) ps) (k j : Nat) : (inB ps k).getLsbD j = true ↔ ((j : Int), (k : Int)) ∈ ps := by
  unfold inB
  rw [attB_bit _ _ _ (fun p hp => by
    obtain ⟨q, hq, rfl⟩ := List.mem_map.1 hp
    have := (hok.ix q hq).1
    have := hok.n40
    exact ⟨by simp; omega, by simp; omega⟩), decide_eq_true_eq, List.mem_map]
  constructor
  · rintro ⟨⟨a, b⟩, h, e⟩
    injection e with e1 e2
    rw [← e1, ← e2]
    exact h
  · intro h
    exact ⟨_, h, rfl⟩
theorem all_bit {N : Nat} (hN : N ≤ 64) (j : Nat) : (bOf N allX).getLsbD j = true ↔ j < N := by
  rw [bOf_bit hN, Bool.and_eq_true, decide_eq_true_eq]
  exact ⟨fun h => h.1, fun h => ⟨h, rfl⟩⟩
theorem inB_sub {N : Nat} {ps : List (Int × Int)} (hok : GOk (N : Int) ps) (k : Nat) : SubB (inB ps k) (bOf N allX) := fun j hj => by
  have h := (hok.ix _ ((inB_bit hok k j).1 hj)).1
  have := hok.n40
  refine (all_bit (by omega) j).2 ?_
  have h2 : (j : Int) < (N : Int) := h.2
  omega
theorem labV_get {N : Nat} (s : Cn) {k : Nat} (hk : k < N) : (labV N s).getD k 0 = labF s k := by
  unfold labV rowF
  rw [List.getD_eq_getElem?_getD]
  simp [hk]
theorem cntp14 {N : Nat} {ps : List (Int × Int)} (hok : GOk (N : Int) ps) (l : List Int) (k x : Nat) : 0 < cntLb ps l k x ↔ ∃ j, j < N ∧ (inB ps k).getLsbD j = true ∧ l.getD j 0 = (x : Int) := by
  unfold cntLb
  rw [List.length_pos_iff_exists_mem]
  constructor
  · rintro ⟨⟨a, b⟩, hp⟩
    obtain ⟨hp, hq⟩ := List.mem_filter.1 hp
    rw [Bool.and_eq_true, beq_iff_eq, beq_iff_eq] at hq
    obtain ⟨hb, hl⟩ := hq
    have h1 := (hok.ix _ hp).1
    simp only at h1 hb hl
    refine ⟨a.toNat, by omega, (inB_bit hok k _).2 ?_, hl⟩
    rw [show ((a.toNat : Nat) : Int) = a by omega, ← hb]
    exact hp
  · rintro ⟨j, hj, hb, hl⟩
    refine ⟨((j : Int), (k : Int)), List.mem_filter.2 ⟨(inB_bit hok k j).1 hb, ?_⟩⟩
    rw [Bool.and_eq_true, beq_iff_eq, beq_iff_eq]
    exact ⟨rfl, hl⟩
section
variable {N : Nat} {s : Cn} (ht : Tot (bOf N allX) s) (hN : N ≤ 64)
include ht
theorem Tot.f1 (j : Nat) : labF s j = 1 ↔ s.i.getLsbD j = true := by
  unfold labF
  constructor
  · intro h
    by_cases hu : s.u.getLsbD j = true
    · rw [if_pos hu] at h; cases h
    · by_cases ho : s.o.getLsbD j = true
      · rw [if_neg hu, if_pos ho] at h; cases h
      · by_cases hi : s.i.getLsbD j = true
        · exact hi
        · rw [if_neg hu, if_neg ho, if_neg hi] at h; cases h
  · intro h
    rw [if_neg (ht.iu j h), if_neg (ht.io j h), if_pos h]
theorem Tot.f2 (j : Nat) : labF s j = 2 ↔ s.o.getLsbD j = true := by
  unfold labF
  constructor
  · intro h
    by_cases hu : s.u.getLsbD j = true
    · rw [if_pos hu] at h; cases h
    · by_cases ho : s.o.getLsbD j = true
      · exact ho
      · by_cases hi : s.i.getLsbD j = true
        · rw [if_neg hu, if_neg ho, if_pos hi] at h; cases h
        · rw [if_neg hu, if_neg ho, if_neg hi] at h; cases h
  · intro h
    rw [if_neg (ht.ou j h), if_pos h]
omit ht in
theorem lab_f3 (j : Nat) : labF s j = 3 ↔ s.u.getLsbD j = true := by
  unfold labF
  constructor
  · intro h
    by_cases hu : s.u.getLsbD j = true
    · exact hu
    · by_cases ho : s.o.getLsbD j = true
      · rw [if_neg hu, if_pos ho] at h; cases h
      · by_cases hi : s.i.getLsbD j = true
        · rw [if_neg hu, if_neg ho, if_pos hi] at h; cases h
        · rw [if_neg hu, if_neg ho, if_neg hi] at h; cases h
  · intro h
    rw [if_pos h]
include hN
theorem Tot.cover {j : Nat} (hj : j < N) : s.i.getLsbD j = true ∨ s.o.getLsbD j = true ∨ s.u.getLsbD j = true := (ht.all j).1 ((all_bit hN j).2 hj)
theorem Tot.lt {j : Nat} (h : s.i.getLsbD j = true ∨ s.o.getLsbD j = true ∨ s.u.getLsbD j = true) : j < N := (all_bit hN j).1 ((ht.all j).2 h)
theorem valid_labV : validB N (labV N s) = true := by
  rw [validB_iff]
  refine ⟨labV_len N s, fun z hz => ?_⟩
  obtain ⟨j, hj, rfl⟩ := List.mem_map.1 hz
  rcases ht.cover hN (List.mem_range.1 hj) with h | h | h
  · rw [(ht.f1 j).2 h]; decide
  · rw [(ht.f2 j).2 h]; decide
  · rw [(lab_f3 j).2 h]; decide
end
theorem ill_none {N : Nat} {ps : List (Int × Int)} {l : List Int} (hv : validB N l = true) : (illL N ps l).length = 0 ↔ ∀ k, k < N → l.getD k 0 = legL ps l k := by
  unfold illL illTo
  rw [if_pos hv, List.length_eq_zero_iff, List.filter_eq_nil_iff]
  constructor
  · intro h k hk
    have := h k (List.mem_range.2 hk)
    simpa using this
  · intro h k hk
    have := h k (List.mem_range.1 hk)
    simpa using this
theorem leg14 {N : Nat} {ps : List (Int × Int)} (hok : GOk (N : Int) ps) {s : Cn} (ht : Tot (bOf N allX) s) : Leg (inB ps) s ↔ compB N ps (labV N s) = true := by
  have hN : N ≤ 64 := by have := hok.n40; omega
  have hv := valid_labV ht hN
  have hc1 : ∀ k, 0 < cntLb ps (labV N s) k 1 ↔ ∃ j, (inB ps k).getLsbD j = true ∧ s.i.getLsbD j = true := fun k => by
    rw [cntp14 hok]
    constructor
    · rintro ⟨j, hj, h1, h2⟩
      rw [labV_get s hj] at h2
      exact ⟨j, h1, (ht.f1 j).1 h2⟩
    · rintro ⟨j, h1, h2⟩
      have hj := ht.lt hN (.inl h2)
      exact ⟨j, hj, h1, by rw [labV_get s hj]; exact (ht.f1 j).2 h2⟩
  have hc3 : ∀ k, 0 < cntLb ps (labV N s) k 3 ↔ ∃ j, (inB ps k).getLsbD j = true ∧ s.u.getLsbD j = true := fun k => by
    rw [cntp14 hok]
    constructor
    · rintro ⟨j, hj, h1, h2⟩
      rw [labV_get s hj] at h2
      exact ⟨j, h1, (lab_f3 j).1 h2⟩
    · rintro ⟨j, h1, h2⟩
      have hj := ht.lt hN (.inr (.inr h2))
      exact ⟨j, hj, h1, by rw [labV_get s hj]; exact (lab_f3 j).2 h2⟩
  unfold compB
  rw [hv, Bool.true_and, decide_eq_true_eq, ill_none hv]
  constructor
  · intro hl k hk
    rw [labV_get s hk]
    unfold legL legC
    rcases ht.cover hN hk with h | h | h
    · rw [(ht.f1 k).2 h, if_neg, if_neg]
      · intro hp
        obtain ⟨j, h1, h2⟩ := (hc3 k).1 (by omega)
        exact ht.ou j (hl.i k h j h1) h2
      · intro hp
        obtain ⟨j, h1, h2⟩ := (hc1 k).1 (by omega)
        exact ht.io j h2 (hl.i k h j h1)
    · rw [(ht.f2 k).2 h, if_pos]
      have := (hc1 k).2 (hl.o k h)
      omega
    · obtain ⟨h1, h2⟩ := hl.u k h
      rw [(lab_f3 k).2 h, if_neg, if_pos]
      · have := (hc3 k).2 h1
        omega
      · intro hp
        obtain ⟨j, h3, h4⟩ := (hc1 k).1 (by omega)
        exact h2 j h3 h4
  · intro hg
    have hg' : ∀ k, k < N → labF s k = legC (cntLb ps (labV N s) k 1) (cntLb ps (labV N s) k 3) := fun k hk => by
      have := hg k hk
      rwa [labV_get s hk] at this
    unfold legC at hg'
    refine ⟨fun k h => ?_, fun k h => ?_, fun k h => ?_⟩
    · have hk := ht.lt hN (.inl h)
      have e := hg' k hk
      rw [(ht.f1 k).2 h] at e
      by_cases p1 : 0 < cntLb ps (labV N s) k 1
      · rw [if_pos (by omega)] at e; cases e
      · rw [if_neg (by omega)] at e
        by_cases p3 : 0 < cntLb ps (labV N s) k 3
        · rw [if_pos (by omega)] at e; cases e
        · intro j hj
          have hjN := (all_bit hN j).1 (inB_sub hok k j hj)
          rcases ht.cover hN hjN with h1 | h1 | h1
          · exact absurd ((hc1 k).2 ⟨j, hj, h1⟩) p1
          · exact h1
          · exact absurd ((hc3 k).2 ⟨j, hj, h1⟩) p3
    · have hk := ht.lt hN (.inr (.inl h))
      have e := hg' k hk
      rw [(ht.f2 k).2 h] at e
      by_cases p1 : 0 < cntLb ps (labV N s) k 1
      · exact (hc1 k).1 p1
      · rw [if_neg (by omega)] at e
        by_cases p3 : 0 < cntLb ps (labV N s) k 3
        · rw [if_pos (by omega)] at e; cases e
        · rw [if_neg (by omega)] at e; cases e
    · have hk := ht.lt hN (.inr (.inr h))
      have e := hg' k hk
      rw [(lab_f3 k).2 h] at e
      by_cases p1 : 0 < cntLb ps (labV N s) k 1
      · rw [if_pos (by omega)] at e; cases e
      · rw [if_neg (by omega)] at e
        by_cases p3 : 0 < cntLb ps (labV N s) k 3
        · exact ⟨(hc3 k).1 p3, fun j h1 h2 => p1 ((hc1 k).2 ⟨j, h1, h2⟩)⟩
        · rw [if_neg (by omega)] at e; cases e
/-- Every labelling is that of some sets. -/
def labS (N : Nat) (l : List Int) : Cn := ⟨bOf N (fun j => decide (l.getD j 0 = 1)), bOf N (fun j => decide (l.getD j 0 = 2)), bOf N (fun j => decide (l.getD j 0 = 3))⟩
theorem labS_bit {N : Nat} (hN : N ≤ 64) (l : List Int) (x : Int) (j : Nat) : (bOf N (fun j => decide (l.getD j 0 = x))).getLsbD j = true ↔ j < N ∧ l.getD j 0 = x := by
  rw [bOf_bit hN, Bool.and_eq_true, decide_eq_true_eq, decide_eq_true_eq]
theorem labS_tot {N : Nat} (hN : N ≤ 64) {l : List Int} (hv : validB N l = true) : Tot (bOf N allX) (labS N l) := by
  obtain ⟨hlen, hok⟩ := validB_iff.1 hv
  refine ⟨fun j => ?_, fun j h1 h2 => ?_, fun j h1 h2 => ?_, fun j h1 h2 => ?_⟩
  · rw [all_bit hN]
    constructor
    · intro hj
      have hm : l.getD j 0 ∈ l := by
        rw [List.getD_eq_getElem?_getD, List.getElem?_eq_getElem (by omega)]
        exact List.getElem_mem _
      have h := hok _ hm
      rcases (show l.getD j 0 = 1 ∨ l.getD j 0 = 2 ∨ l.getD j 0 = 3 by omega) with e | e | e
      · exact .inl ((labS_bit hN l 1 j).2 ⟨hj, e⟩)
      · exact .inr (.inl ((labS_bit hN l 2 j).2 ⟨hj, e⟩))
      · exact .inr (.inr ((labS_bit hN l 3 j).2 ⟨hj, e⟩))
    · rintro (h | h | h)
      · exact ((labS_bit hN l 1 j).1 h).1
      · exact ((labS_bit hN l 2 j).1 h).1
      · exact ((labS_bit hN l 3 j).1 h).1
  · have e1 := ((labS_bit hN l 1 j).1 h1).2
    have e2 := ((labS_bit hN l 2 j).1 h2).2
    omega
  · have e1 := ((labS_bit hN l 1 j).1 h1).2
    have e2 := ((labS_bit hN l 3 j).1 h2).2
    omega
  · have e1 := ((labS_bit hN l 2 j).1 h1).2
    have e2 := ((labS_bit hN l 3 j).1 h2).2
    omega
theorem labS_lab {N : Nat} (hN : N ≤ 64) {l : List Int} (hv : validB N l = true) : labV N (labS N l) = l := by
  obtain ⟨hlen, hok⟩ := validB_iff.1 hv
  have ht := labS_tot hN hv
  apply List.ext_getElem
  · rw [labV_len, hlen]
  · intro j h1 h2
    have hj : j < N := by omega
    have e : (labV N (labS N l))[j] = labF (labS N l) j := by simp [labV, rowF]
    have el : l.getD j 0 = l[j] := by rw [List.getD_eq_getElem?_getD, List.getElem?_eq_getElem h2]; rfl
    rw [e]
    rcases ht.cover hN hj with h | h | h
    · rw [(ht.f1 j).2 h, ← el, ((labS_bit hN l 1 j).1 h).2]
    · rw [(ht.f2 j).2 h, ← el, ((labS_bit hN l 2 j).1 h).2]
    · rw [(lab_f3 j).2 h, ← el, ((labS_bit hN l 3 j).1 h).2]
/-- The complete labellings, in order. -/
structure CL (N : Nat) (ps : List (Int × Int)) (ls : List (List Int)) : Prop where
  up : ls.Pairwise fun x y => cmpF x y < 0
  mem : ∀ l, l ∈ ls ↔ compB N ps l = true
theorem CL.uniq {N : Nat} {ps : List (Int × Int)} {l m : List (List Int)} (h : CL N ps l) (h' : CL N ps m) : l = m := by
  have nd : ∀ {l : List (List Int)}, (l.Pairwise fun x y => cmpF x y < 0) → l.Nodup := fun h => h.imp fun {a b} hab e => by subst e; rw [cmpF_refl] at hab; exact absurd hab (by decide)
  refine List.Perm.eq_of_pairwise (le := fun x y => cmpF x y < 0) (fun a b _ _ h1 h2 => ?_) h.up h'.up ?_
  · have := cmpF_trans _ _ _ h1 h2
    rw [cmpF_refl] at this
    exact absurd this (by decide)
  · exact (List.perm_ext_iff_of_nodup (nd h.up) (nd h'.up)).2 fun x => (h.mem x).trans (h'.mem x).symm
theorem sub_all {N : Nat} {s : Cn} (ht : Tot (bOf N allX) s) : SubC s ⟨bOf N allX, bOf N allX, bOf N allX⟩ :=
  ⟨fun j hj => (ht.all j).2 (.inl hj), fun j hj => (ht.all j).2 (.inr (.inl hj)), fun j hj => (ht.all j).2 (.inr (.inr hj))⟩
theorem CL.of {N : Nat} {ps : List (Int × Int)} (hok : GOk (N : Int) ps) {ls : List Cn} {sorted : List (List Int)} (h : Sols (inB ps) (bOf N allX) ⟨bOf N allX, bOf N allX, bOf N allX⟩ ls) (hp : sorted.Perm (ls.map (labV N))) (hs : sorted.Pairwise fun x y => cmpF x y < 0) : CL N ps sorted := by
  have hN : N ≤ 64 := by have := hok.n40; omega
  refine ⟨hs, fun l => ?_⟩
  rw [hp.mem_iff, List.mem_map]
  constructor
  · rintro ⟨s, hm, rfl⟩
    obtain ⟨ht, hl, -⟩ := (h.2 s).1 hm
    exact (leg14 hok ht).1 hl
  · intro hc
    have hv : validB N l = true := (Bool.and_eq_true _ _ ▸ hc).1
    have e := labS_lab hN hv
    have ht := labS_tot hN hv
    exact ⟨labS N l, (h.2 _).2 ⟨ht, (leg14 hok ht).2 (by rw [e]; exact hc), sub_all ht⟩, e⟩
/-- More complete labellings than are listed. -/
def CLmore (N : Nat) (ps : List (Int × Int)) : Prop := ∃ ls : List (List Int), ls.Nodup ∧ (∀ l ∈ ls, compB N ps l = true) ∧ 200 < ls.length
theorem CLmore.of {N : Nat} {ps : List (Int × Int)} (hok : GOk (N : Int) ps) {ls : List Cn} (h : SomeS (inB ps) (bOf N allX) ⟨bOf N allX, bOf N allX, bOf N allX⟩ ls) (hl : 200 < ls.length) : CLmore N ps := by
  have hN : N ≤ 64 := by have := hok.n40; omega
  refine ⟨ls.map (labV N), ?_, fun l hm => ?_, by rw [List.length_map]; exact hl⟩
  · refine List.pairwise_map.2 (List.Pairwise.imp_of_mem (fun {x y} hx hy hne e => hne ?_) h.1)
    exact labV_inj (fun j hj => (all_bit hN j).1 hj) (h.2 x hx).1 (h.2 y hy).1 e
  · obtain ⟨s, hs, rfl⟩ := List.mem_map.1 hm
    exact (leg14 hok (h.2 s hs).1).1 (h.2 s hs).2.1
theorem nodup_len14 {α : Type} [DecidableEq α] : ∀ {l m : List α}, l.Nodup → (∀ x ∈ l, x ∈ m) → l.length ≤ m.length
  | [], m, _, _ => Nat.zero_le _
  | x :: l, m, h, hs => by
    obtain ⟨h1, h2⟩ := List.nodup_cons.1 h
    have hx := hs x (List.mem_cons_self ..)
    have ih := nodup_len14 (l := l) (m := m.erase x) h2 fun y hy => by
      have hne : y ≠ x := fun e => h1 (e ▸ hy)
      exact (List.mem_erase_of_ne hne).2 (hs y (List.mem_cons_of_mem _ hy))
    rw [List.length_erase_of_mem hx] at ih
    have := List.length_pos_of_mem hx
    rw [List.length_cons]
    omega
theorem CLmore.not {N : Nat} {ps : List (Int × Int)} (h : CLmore N ps) {l : List (List Int)} (hc : CL N ps l) : 200 < l.length := by
  obtain ⟨ls, h1, h2, h3⟩ := h
  have hsub : ∀ x ∈ ls, x ∈ l := fun x hx => (hc.mem x).2 (h2 x hx)
  have := nodup_len14 h1 hsub
  omega
end Go.Proofs.YtfiaoibfejginaaDoor

namespace Go.Proofs.YtfiaoibfejginaaDoor
set_option linter.unusedVariables false
set_option linter.unusedSimpArgs false
open Go Go.RowKit Go.Sort

theorem Tab.lt {w : World} (h : Tab w) : 0 < w.heap.size := World.block_lt_of_cell? w _ (h 0 (by decide))
theorem nodes_word14 {N : Nat} (hN : N ≤ 40) : IntKind.u64.wrap (IntKind.u64.wrap (2 ^ N) - 1) = ((bOf N allX).toNat : Int) := by
  have h1 := bOf_all (N := N) (by omega)
  have h2 := wrap_one (m := N) (by omega)
  have h3 := one_toNat (m := N) (by omega)
  have h4 : 2 ^ N ≤ 2 ^ 40 := Nat.pow_le_pow_right (by decide) hN
  have h5 : 0 < 2 ^ N := Nat.two_pow_pos N
  rw [h2, h3, h1, IntKind.wrap_u64]
  omega
set_option maxHeartbeats 1000000 in
theorem sNodesOf_any (N : Nat) (hN : N ≤ 40) (v : Value) (hv : ∃ a l c, v = .slice a l c) (w : World) : Calls Tryd.prog 33 #[.agg #[.int .i64 (N : Int), v]] w fun e w' => e = .returned (bv (bOf N allX)) ∧ Below w.heap.size w w' := by
  obtain ⟨a, l, c, rfl⟩ := hv
  have HB := hidIt (bgrow w (.cells #[.int .i64 (N : Int), .slice a l c] 24))
  have HX := hidIt (heap_alloc_new w (.cells #[.int .i64 (N : Int), .slice a l c] 24))
  have HW := hidIt (nodes_word14 hN)
  have h0 : (0 : Int) ≤ (N : Int) := by omega
  go_enter Tryd.func33, Tryd.ntmps33
  go_upto_region 1 with (fail)
  generalize (w.alloc (.cells #[.int .i64 (N : Int), .slice a l c] 24)) = w1 at *
  obtain ⟨x0, x1⟩ := And.intro (cell_two0 HX.out) (cell_two1 HX.out)
  have lx := lt_of_block HX.out
  go_wp2_with fail
  go_ret
  exact ⟨by rw [HW.out]; rfl, HB.out⟩

theorem sBuilt (n i o u : BitVec 64) : Tryd.prog.built 61 [(0, bv n), (2, .agg #[.int .u64 0, bv i, bv o, bv u])] = some (sRow n (fun _ => 0#64) ⟨i, o, u⟩ (.slice none 0 0) false) := by kernel_rfl
theorem at_build14 {P : Program} {ops : Array Oper} {rest : List Oper} {o : Oper} {a : Act} {w : World} {Q : Exit → Act → World → Prop} {x y : Operand} (_ho : o.op = .build 61 #[(0, x), (2, y)]) (h : wpList P ops Q (o :: rest) a w) : wpList P ops Q (o :: rest) a w := h
theorem at_store14 {P : Program} {ops : Array Oper} {rest : List Oper} {o : Oper} {a : Act} {w : World} {Q : Exit → Act → World → Prop} {x y : Operand} (_ho : o.op = .store 61 x y) (h : wpList P ops Q (o :: rest) a w) : wpList P ops Q (o :: rest) a w := h
theorem wpList_build14 {ops : Array Oper} {rest : List Oper} {o : Oper} {a : Act} {w : World} {Q : Exit → Act → World → Prop} (hgd : o.guard = none) (x y : Operand) (ho : o.op = .build 61 #[(0, x), (2, y)]) (n i0 o0 u0 : BitVec 64) (hx : a.eval x = bv n) (hy : a.eval y = .agg #[.int .u64 0, bv i0, bv o0, bv u0])
    (h : wpList Tryd.prog ops Q rest (a.put o.dst (.agg (sRow n (fun _ => 0#64) ⟨i0, o0, u0⟩ (.slice none 0 0) false))) w) : wpList Tryd.prog ops Q (o :: rest) a w := by
  have hb : Tryd.prog.built 61 (#[(0, x), (2, y)].map fun (i, x) => (i, a.eval x)).toList = some (sRow n (fun _ => 0#64) ⟨i0, o0, u0⟩ (.slice none 0 0) false) := by
    rw [← sBuilt]
    simp [hx, hy]
  refine wpList_plain hgd fun _ hK => ?_
  unfold Oper.wp execOp
  simp only [ho, Sem.run_bind, run_build w _ _ _ hb, Result.andThen_ok]
  exact hK _ _ h
theorem sRow_one (n : BitVec 64) (A : Nat → BitVec 64) (c : Cn) (a : Option Addr) (l k : Nat) (t : Bool) : (sRow n A c (.slice a l k) t).all (·.oneCell') = true := by
  rw [Array.all_eq_true_iff_forall_mem]
  intro v hv
  unfold sRow at hv
  simp only [List.mem_toArray, List.mem_append, List.mem_cons, List.mem_map, List.not_mem_nil, or_false] at hv
  rcases hv with (rfl | ⟨i, -, rfl⟩) | rfl | rfl | rfl | rfl | rfl | rfl <;> rfl
theorem infoSr : (Tryd.prog.info? 61).map (·.size) = some 47 := by kernel_rfl
theorem wpList_store14 {ops : Array Oper} {rest : List Oper} {o : Oper} {a : Act} {w : World} {Q : Exit → Act → World → Prop} (hgd : o.guard = none) (x y : Operand) (ho : o.op = .store 61 x y) (P : Nat) (hx : a.eval x = .pointer (some ⟨P, 0, none⟩)) (n : BitVec 64) (c : Cn) (hy : a.eval y = .agg (sRow n (fun _ => 0#64) c (.slice none 0 0) false)) (cs : Array Value) (hA : w.heap[P]? = some (.cells cs 61 (0, 0))) (hcs : cs.size = 47)
    (h : ∀ w', SrW w' P n (fun _ => 0#64) c (.slice none 0 0) false → (∀ B, B ≤ P → Below B w w') → wpList Tryd.prog ops Q rest (a.put o.dst undef) w') : wpList Tryd.prog ops Q (o :: rest) a w := by
  have hs := run_storeVar_row (P := Tryd.prog) w P 61 61 cs (sRow n (fun _ => 0#64) c (.slice none 0 0) false) hA (by rw [sRow_size]; exact infoSr) (by rw [sRow_size, hcs]) (sRow_one _ _ _ _ _ _ _)
  have hr : (Instr.storeAt 61 (.pointer (some ⟨P, 0, none⟩)) (.agg (sRow n (fun _ => 0#64) c (.slice none 0 0) false))).run Tryd.prog w = .ok () (w.setRow P (sRow n (fun _ => 0#64) c (.slice none 0 0) false)) := by
    simp only [Instr.storeAt, Instr.sureAddr, Sem.run_bind, Sem.run_pure, Result.andThen_ok, hs]
  refine wpList_plain hgd fun K hK => ?_
  unfold Oper.wp execOp
  simp only [ho, hx, hy, hr, Sem.run_bind, Sem.run_pure, Result.andThen_ok]
  refine hK _ _ (h _ (setRow_heap w P _ _ _ _ hA) fun B hB => ⟨rfl, rfl, rfl, ?_, fun k hk => ?_⟩)
  · show w.heap.size ≤ (w.heap.modify P _).size
    rw [Array.size_modify]
    exact Nat.le_refl _
  · show (w.heap.modify P _)[k]? = _
    rw [Array.getElem?_modify, if_neg (by omega)]
theorem inB_zero (ps : List (Int × Int)) : inB (ps.take 0) = fun _ => 0#64 := by
  rw [List.take_zero]
  rfl

set_option maxRecDepth 100000 in
set_option maxHeartbeats 8000000 in
theorem sComplete_any (n : Int) (v : Value) (ps : List (Int × Int)) (w : World) (h : PairsAt w v ps) (hl : ps.length ≤ 100000) (hT : Tab w) :
    Calls Tryd.prog 12 #[.agg #[.int .i64 n, v]] w fun e w' => Below w.heap.size w w' ∧ ((valE n ps ≠ 0 ∧ e = .returned (.tuple #[.slice none 0 0, .int .i64 (valE n ps)])) ∨
      (valE n ps = 0 ∧ ((∃ (v' : Value) (ls : List (List Int)), e = .returned (.tuple #[v', .int .i64 0]) ∧ CL n.toNat ps ls ∧ ls.length ≤ 200 ∧ Srt w' w.heap.size v' ls) ∨
        (e = .returned (.tuple #[.slice none 0 0, .int .i64 2]) ∧ CLmore n.toNat ps)))) := by
  have hB := bgrow w (.cells #[.int .i64 n, v] 24)
  have H1 := hidIt (h.below hB)
  have HTG := hidIt hT.lt
  have HT := hidIt hT
  obtain ⟨a, c, rfl, hpc⟩ := h.pc
  have HPC := hidIt hpc
  have HX := hidIt (heap_alloc_new w (.cells #[.int .i64 n, .slice a ps.length c] 24))
  have HB := hidIt hB
  have HL := hidIt hl
  clear h hpc hB hT hl
  go_enter Tryd.func12, Tryd.ntmps12
  go_upto_region 1 with (fail)
  generalize (w.alloc (.cells #[.int .i64 n, .slice a ps.length c] 24)) = w1 at *
  obtain ⟨B, hBw⟩ : ∃ B, B = w.heap.size := ⟨_, rfl⟩
  have HBW := hidIt hBw
  rw [← hBw] at HX HTG ⊢
  clear hBw
  obtain ⟨x0, x1⟩ := And.intro (cell_two0 HX.out) (cell_two1 HX.out)
  have lx := lt_of_block HX.out
  go_wp2_with fail
  refine (gValidate_any n _ ps _ H1.out (by have := HL.out; omega)).mono ?_
  rintro e w2 ⟨rfl, hb⟩
  have HX2 := hidIt (blk_kept2 HX.out hb)
  have HB2 := hidIt (HB.out.trans (Below.mono hb HB.out.size))
  clear hb x0 x1 lx HX H1 HB
  by_cases hv : valE n ps = 0
  · have HOK := hidIt (valE_ok hv)
    have HV := hidIt hv
    rw [hv]
    clear hv
    obtain ⟨N, rfl⟩ : ∃ N : Nat, n = (N : Int) := ⟨n.toNat, by have := HOK.out.n0; omega⟩
    have hN : N ≤ 40 := by have := HOK.out.n40; omega
    obtain ⟨x0, x1⟩ := And.intro (cell_two0 HX2.out) (cell_two1 HX2.out)
    have lx := lt_of_block HX2.out
    go_wp2_with fail
    refine (sNodesOf_any N hN _ ⟨_, _, _, rfl⟩ _).mono ?_
    rintro e w3 ⟨rfl, hb⟩
    have HX3 := hidIt (blk_kept2 HX2.out hb)
    have HB3 := hidIt (HB2.out.trans (Below.mono hb HB2.out.size))
    clear hb x0 x1 lx HX2 HB2
    have HNB : Hid (∀ k, (bOf N allX).getLsbD k = true → k < N) := fun k hk => (all_bit (by omega) k).1 hk
    generalize hV : bOf N allX = V at *
    have HVV := hidIt hV
    clear hV
    have hBP : B < w3.heap.size := lt_of_block HX3.out
    have HTZ : Hid (inB (ps.take 0) = fun _ => 0#64) := inB_zero ps
    go_wp2_with (with_reducible refine at_build14 rfl ?_; refine Hid.out ?_)
    refine hidIt ?_
    refine wpList_build14 rfl (.tmp 16) (.tmp 20) rfl V V V V rfl rfl ?_
    go_wp2_with (with_reducible refine at_store14 rfl ?_; refine Hid.out ?_)
    refine hidIt ?_
    refine wpList_store14 rfl (.tmp 6) (.tmp 21) rfl w3.heap.size rfl V ⟨V, V, V⟩ rfl _ (heap_alloc_new w3 _) rfl ?_
    intro w4 hs4 hb4
    have HB4' := hb4 w3.heap.size (Nat.le_refl _)
    have HS4 : Hid (SrW w4 w3.heap.size V (inB (ps.take 0)) ⟨V, V, V⟩ (.slice none 0 0) false) := by
      rw [HTZ.out]; exact hs4
    have hg4 : Below w3.heap.size w3 w4 := (bgrow w3 _).trans HB4'
    have HX4 := hidIt (blk_kept2 HX3.out hg4)
    have HB4 := hidIt (HB3.out.trans (Below.mono hg4 HB3.out.size))
    clear hg4 hs4 hb4 HB4'
    obtain ⟨P, hP⟩ : ∃ P, P = w3.heap.size := ⟨_, rfl⟩
    rw [← hP] at HS4 hBP ⊢
    clear hP HX3 HB3
    obtain ⟨x0, x1⟩ := And.intro (cell_two0 HX4.out) (cell_two1 HX4.out)
    have lx := lt_of_block HX4.out
    obtain ⟨M, hM⟩ : ∃ M, M = ps.length := ⟨_, rfl⟩
    have HM := hidIt hM
    rw [← hM] at HL HX4 x1 ⊢
    have hMl : M ≤ 100000 := HL.out
    clear hM
    go_wp2_with fail
    go_loopw [25] (fun i wr => ∃ k : Nat, k ≤ M ∧ i = .int .i64 k ∧ Hid (SrW wr P V (inB (ps.take k)) ⟨V, V, V⟩ (.slice none 0 0) false) ∧ Hid (wr.heap[B]? = some (.cells #[.int .i64 (N : Int), .slice a M c] 24 (0, 0))) ∧ Hid (Below w.heap.size w wr)) (fun i _ => M - (intOf i).toNat)
    case atStart => exact ⟨0, Nat.zero_le _, (by first | rfl | trivial), HS4.out, HX4.out, HB4.out⟩
    case round =>
      clear HS4 HX4 HB4 x0 x1 lx
      obtain ⟨k, hk, rfl, HS, HX, HB⟩ := hrel
      have hkI0 : (0 : Int) ≤ (k : Int) := by omega
      obtain ⟨x0, x1⟩ := And.intro (cell_two0 HX.out) (cell_two1 HX.out)
      have lx := lt_of_block HX.out
      by_cases hlt : k < M
      · have hkI : (k : Int) < (M : Int) := by omega
        have HLT : Hid (k < ps.length) := by show k < _; rw [← HM.out]; exact hlt
        obtain ⟨b, off, rfl, lb, hcs⟩ := (HPC.out.go HB.out).at_ HLT.out
        obtain ⟨p0, p1⟩ := hcs k HLT.out
        have hmem := HOK.out.ix (ps[k]'HLT.out) (List.getElem_mem _)
        have HST : Hid (∀ i, inB (ps.take (k + 1)) i = if (ps[k]'HLT.out).2 = (i : Int) then inB (ps.take k) i ||| oneB (ps[k]'HLT.out).1.toNat else inB (ps.take k) i) := fun i => by
          unfold inB
          have := attB_step (ps := ps.map fun p => (p.2, p.1)) (k := k) (by rw [List.length_map]; exact HLT.out) i
          rw [← List.map_take, ← List.map_take, List.getElem_map] at this
          exact this
        obtain ⟨x, hx⟩ : ∃ x, x = ps[k]'HLT.out := ⟨_, rfl⟩
        rw [← hx] at p0 p1 hmem HST
        clear hx hcs
        obtain ⟨gx, sx⟩ := x
        simp only at p0 p1 hmem
        obtain ⟨⟨g0, g1⟩, s0, s1⟩ := hmem
        obtain ⟨f, rfl⟩ : ∃ f : Nat, gx = (f : Int) := ⟨gx.toNat, by omega⟩
        obtain ⟨t, rfl⟩ : ∃ t : Nat, sx = (t : Int) := ⟨sx.toNat, by omega⟩
        have hf : f < 64 := by omega
        have ht : t < 40 := by omega
        have ht0 : (0 : Int) ≤ (t : Int) := by omega
        have htI : (t : Int) < 40 := by omega
        have hf0 : (0 : Int) ≤ (f : Int) := by omega
        have hg2 := bgrow wr (.cells #[.int .i64 (f : Int), .int .i64 (t : Int)] 45)
        have HQ := hidIt (heap_alloc_new wr (.cells #[.int .i64 (f : Int), .int .i64 (t : Int)] 45))
        have HS3 := hidIt (HS.out.go hg2)
        have HX3 := hidIt (blk_kept2 HX.out hg2)
        have HB3 := hidIt (HB.out.trans (Below.mono hg2 HB.out.size))
        clear hg2 HS HX HB
        go_upto_region 9 with (fail)
        generalize wr.alloc (.cells #[.int .i64 (f : Int), .int .i64 (t : Int)] 45) = w5 at *
        clear p0 p1 lb x0 x1 lx
        generalize wr.heap.size = Q at *
        obtain ⟨y0, y1⟩ := And.intro (cell_two0 HQ.out) (cell_two1 HQ.out)
        have ly := lt_of_block HQ.out
        have c0 := HS3.out.by_ ht
        have f0 := HS3.out.free (1 + t)
        have lc := HS3.out.lt
        have hPB : B ≠ P := by omega
        have HSN : Hid (SrW (w5.setCell ⟨P, 1 + t, none⟩ (bv (inB (ps.take k) t ||| oneB f))).drew P V (inB (ps.take (k + 1))) ⟨V, V, V⟩ (.slice none 0 0) false) := by
          have h := HS3.out.setA ht (inB (ps.take k) t ||| oneB f)
          have e : updB (inB (ps.take k)) t (inB (ps.take k) t ||| oneB f) = inB (ps.take (k + 1)) := by
            funext i
            rw [HST.out i]
            unfold updB
            by_cases e : i = t
            · subst e; simp
            · have : ¬ (t : Int) = (i : Int) := by omega
              simp [e, this]
          rw [e] at h
          exact h
        have HXN : Hid ((w5.setCell ⟨P, 1 + t, none⟩ (bv (inB (ps.take k) t ||| oneB f))).drew.heap[B]? = some (.cells #[.int .i64 (N : Int), .slice (some ⟨b, off, none⟩) M c] 24 (0, 0))) := by
          show _ = _
          rw [show (w5.setCell ⟨P, 1 + t, none⟩ (bv (inB (ps.take k) t ||| oneB f))).drew.heap[B]? = w5.heap[B]? from Below.heap_setCell w5 ⟨P, 1 + t, none⟩ _ B hPB]
          exact HX3.out
        have HBN : Hid (Below w.heap.size w (w5.setCell ⟨P, 1 + t, none⟩ (bv (inB (ps.take k) t ||| oneB f))).drew) := by
          have h := below_set5 (b := P) (i := 1 + t) (u := bv (inB (ps.take k) t ||| oneB f)) HB3.out (by have := HBW.out; omega)
          exact ⟨h.os, h.tape, h.output, h.size, h.block⟩
        have HOR := hidIt (or_one (inB (ps.take k) t) hf)
        go_big_region
        go_wp2_with fail
        rw [HOR.out]
        go_roundw
        case rel => exact ⟨k + 1, by omega, by go_num, HSN.out, HXN.out, HBN.out⟩
        case measure => simp [intOf]; omega
      · have hkI : ¬ (k : Int) < (M : Int) := by omega
        have HE : Hid (SrW wr P V (inB ps) ⟨V, V, V⟩ (.slice none 0 0) false) := by
          have := HS.out
          rwa [List.take_of_length_le (by rw [← HM.out]; omega)] at this
        have HTr : Hid (Tab wr) := HT.out.go HB.out
        have HAS : Hid (∀ k, V.getLsbD k = true → SubB (inB ps k) V) := fun k _ => by rw [← HVV.out]; exact inB_sub HOK.out k
        have HCS : Hid (SubB ((⟨V, V, V⟩ : Cn).i ||| (⟨V, V, V⟩ : Cn).o ||| (⟨V, V, V⟩ : Cn).u) V) := fun j hj => by
          rcases bit_or.1 hj with h1 | h1
          · rcases bit_or.1 h1 with h2 | h2
            · exact h2
            · exact h2
          · exact h1
        have hgP : 0 < P := by have := HTG.out; omega
        have HGP := hidIt hgP
        clear hgP
        go_wp2_with fail
        refine (sRun_any P N V (inB ps) ⟨V, V, V⟩ _ HE.out HTr.out HGP.out hN HNB.out HAS.out HCS.out).mono ?_
        rintro e w9 ⟨hb9, hr9⟩
        have HB9 := hidIt (HB.out.trans (hb9.below (by have := HBW.out; omega) HB.out.size))
        have HBS := HB.out.size
        have HWS : Hid (w.heap.size ≤ wr.heap.size) := HB.out.size
        rcases hr9 with ⟨v9, ls, sorted, rfl, hso, hll, hsp, hss, hsr⟩ | ⟨rfl, ls, hsm, hll⟩
        · have HCL : Hid (CL N ps sorted) := by
            rw [← HVV.out] at hso
            exact CL.of HOK.out hso hsp hss
          have hsl : sorted.length ≤ 200 := by rw [hsp.length_eq, List.length_map]; exact hll
          have HSR := hidIt (hsr.base HWS.out)
          go_wp2_with fail
          refine bodyPost_ret (v := .tuple #[v9, .int .i64 0]) (by simp [results, Tryd.results12]) rfl ?_
          exact ⟨HB9.out, .inr ⟨HV.out, .inl ⟨v9, sorted, rfl, by rw [Int.toNat_natCast]; exact HCL.out, hsl, HSR.out⟩⟩⟩
        · have HCM : Hid (CLmore N ps) := by
            rw [← HVV.out] at hsm
            exact CLmore.of HOK.out hsm hll
          go_wp2_with fail
          refine bodyPost_ret (v := .tuple #[.slice none 0 0, .int .i64 2]) (by simp [results, Tryd.results12]) rfl ?_
          exact ⟨HB9.out, .inr ⟨HV.out, .inr ⟨rfl, by rw [Int.toNat_natCast]; exact HCM.out⟩⟩⟩
  · have hne : (valE n ps != 0) = true := by simpa using hv
    have HV := hidIt hv
    clear hv
    go_wp2_with fail
    refine bodyPost_ret (v := .tuple #[.slice none 0 0, .int .i64 (valE n ps)]) (by simp [results, Tryd.results12]) rfl ?_
    exact ⟨HB2.out, .inl ⟨HV.out, rfl⟩⟩
end Go.Proofs.YtfiaoibfejginaaDoor

namespace Go.Proofs.YtfiaoibfejginaaDoor
set_option linter.unusedVariables false
set_option linter.unusedSimpArgs false
open Go Go.RowKit Go.Sort

/-- A set with one node more. -/
def addX (X : Nat → Bool) (k : Nat) (i : Nat) : Bool := X i || decide (i = k)
/-- Free of conflicts, and no node may be added. -/
def naiveX (N : Nat) (ps : List (Int × Int)) (X : Nat → Bool) : Prop := cfX ps X = true ∧ ∀ k, k < N → X k = false → cfX ps (addX X k) = false
structure NL (N : Nat) (ps : List (Int × Int)) (ls : List (List Int)) : Prop where
  up : ls.Pairwise fun x y => cmpF x y < 0
  mem : ∀ l, l ∈ ls ↔ setB N l = true ∧ naiveX N ps (memB l)
theorem NL.uniq {N : Nat} {ps : List (Int × Int)} {l m : List (List Int)} (h : NL N ps l) (h' : NL N ps m) : l = m := by
  have nd : ∀ {l : List (List Int)}, (l.Pairwise fun x y => cmpF x y < 0) → l.Nodup := fun h => h.imp fun {a b} hab e => by subst e; rw [cmpF_refl] at hab; exact absurd hab (by decide)
  refine List.Perm.eq_of_pairwise (le := fun x y => cmpF x y < 0) (fun a b _ _ h1 h2 => ?_) h.up h'.up ?_
  · have := cmpF_trans _ _ _ h1 h2
    rw [cmpF_refl] at this
    exact absurd this (by decide)
  · exact (List.perm_ext_iff_of_nodup (nd h.up) (nd h'.up)).2 fun x => (h.mem x).trans (h'.mem x).symm
/-- The nodes that do not attack themselves. -/
def selfV (N : Nat) (ps : List (Int × Int)) : BitVec 64 := ps.foldl (fun s p => if p.1 = p.2 then s &&& ~~~(oneB p.1.toNat) else s) (bOf N allX)
theorem selfV_step {N : Nat} {ps : List (Int × Int)} {k : Nat} (h : k < ps.length) : selfV N (ps.take (k + 1)) = if ps[k].1 = ps[k].2 then selfV N (ps.take k) &&& ~~~(oneB ps[k].1.toNat) else selfV N (ps.take k) := by
  unfold selfV
  rw [List.take_succ_eq_append_getElem h, List.foldl_append]
  rfl
theorem selfV_bit {N : Nat} (hN : N ≤ 64) (j : Nat) : ∀ (ps : List (Int × Int)), (∀ p ∈ ps, 0 ≤ p.1 ∧ p.1 < 64) → ∀ (s : BitVec 64), (ps.foldl (fun s p => if p.1 = p.2 then s &&& ~~~(oneB p.1.toNat) else s) s).getLsbD j = true ↔ s.getLsbD j = true ∧ ((j : Int), (j : Int)) ∉ ps
  | [], _, s => by simp
  | p :: ps, h, s => by
    have ih := selfV_bit hN j ps fun q hq => h q (List.mem_cons_of_mem _ hq)
    have hp := h p (List.mem_cons_self ..)
    rw [List.foldl_cons, ih]
    by_cases e : p.1 = p.2
    · rw [if_pos e, bit_sub, bit_oneB]
      constructor
      · rintro ⟨⟨h1, h2⟩, h3⟩
        refine ⟨h1, fun h4 => ?_⟩
        rcases List.mem_cons.1 h4 with h5 | h5
        · exact h2 ⟨by omega, by rw [← h5]; simp⟩
        · exact h3 h5
      · rintro ⟨h1, h2⟩
        refine ⟨⟨h1, fun ⟨_, h4⟩ => h2 (List.mem_cons.2 (.inl ?_))⟩, fun h3 => h2 (List.mem_cons_of_mem _ h3)⟩
        have e1 : (j : Int) = p.1 := by omega
        exact Prod.ext e1 (by simp only; omega)
    · rw [if_neg e]
      constructor
      · rintro ⟨h1, h2⟩
        refine ⟨h1, fun h4 => ?_⟩
        rcases List.mem_cons.1 h4 with h5 | h5
        · apply e; rw [← h5]
        · exact h2 h5
      · rintro ⟨h1, h2⟩
        exact ⟨h1, fun h3 => h2 (List.mem_cons_of_mem _ h3)⟩
theorem self_iff {N : Nat} {ps : List (Int × Int)} (hok : GOk (N : Int) ps) (j : Nat) : (selfV N ps).getLsbD j = true ↔ j < N ∧ ¬ At ps j j := by
  have hN : N ≤ 64 := by have := hok.n40; omega
  unfold selfV
  rw [selfV_bit hN j ps (fun p hp => by have := (hok.ix p hp).1; have := hok.n40; omega), all_bit hN]
  exact Iff.rfl
/-- Those in conflict with a node, among the nodes V. -/
def nA (V : BitVec 64) (ps : List (Int × Int)) (k : Nat) : BitVec 64 := (inB ps k ||| attB ps k) &&& V
theorem nA_bit {N : Nat} {ps : List (Int × Int)} (hok : GOk (N : Int) ps) (V : BitVec 64) (k j : Nat) : (nA V ps k).getLsbD j = true ↔ (At ps j k ∨ At ps k j) ∧ V.getLsbD j = true := by
  unfold nA
  rw [bit_and, bit_or, inB_bit hok, attB_bit ps k j (fun p hp => by have := (hok.ix p hp).2; have := hok.n40; omega), decide_eq_true_eq]
  exact Iff.rfl
theorem nA_sub (V : BitVec 64) (ps : List (Int × Int)) (k : Nat) : SubB (nA V ps k) V := fun _ h => (bit_and.1 h).2
/-- The search's labellings are the naive sets. -/
def startN (V : BitVec 64) : Cn := ⟨V, V, 0#64⟩
def setX (s : Cn) (j : Nat) : Bool := s.i.getLsbD j
section
variable {N : Nat} {ps : List (Int × Int)} (hok : GOk (N : Int) ps)
include hok
theorem naive_of {s : Cn} (ht : Tot (selfV N ps) s) (hl : Leg (nA (selfV N ps) ps) s) (hs : SubC s (startN (selfV N ps))) : naiveX N ps (setX s) := by
  have hcf : ∀ j k, At ps j k → s.i.getLsbD j = true → s.i.getLsbD k = true → False := fun j k ha hj hk => by
    have hV := (ht.all j).2 (.inl hj)
    exact ht.io j hj (hl.i k hk j ((nA_bit hok _ k j).2 ⟨.inl ha, hV⟩))
  refine ⟨(cfX_iff hok.ix).2 hcf, fun k hk hn => ?_⟩
  refine Bool.eq_false_iff.2 fun hc => ?_
  have hc := (cfX_iff hok.ix).1 hc
  have hkk : addX (setX s) k k = true := by simp [addX]
  by_cases hV : (selfV N ps).getLsbD k = true
  · rcases (ht.all k).1 hV with h | h | h
    · have : setX s k = true := h
      rw [this] at hn; cases hn
    · obtain ⟨j, hj, hji⟩ := hl.o k h
      have hja : addX (setX s) k j = true := by show (setX s j || _) = true; rw [show setX s j = true from hji]; rfl
      rcases ((nA_bit hok _ k j).1 hj).1 with ha | ha
      · exact hc j k ha hja hkk
      · exact hc k j ha hkk hja
    · have := hs.u k h
      simp [startN] at this
  · have : At ps k k := Classical.byContradiction fun hn => hV ((self_iff hok k).2 ⟨hk, hn⟩)
    exact hc k k this hkk hkk
/-- A naive set, as a labelling. -/
def setC (N : Nat) (ps : List (Int × Int)) (X : Nat → Bool) : Cn := ⟨bOf N X, selfV N ps &&& ~~~(bOf N X), 0#64⟩
theorem naive_to {X : Nat → Bool} (hX : ∀ i, X i = true → i < N) (h : naiveX N ps X) : Tot (selfV N ps) (setC N ps X) ∧ Leg (nA (selfV N ps) ps) (setC N ps X) ∧ SubC (setC N ps X) (startN (selfV N ps)) := by
  have hN : N ≤ 64 := by have := hok.n40; omega
  have hb : ∀ j, (bOf N X).getLsbD j = true ↔ X j = true := fun j => by
    rw [bOf_bit hN, Bool.and_eq_true, decide_eq_true_eq]
    exact ⟨fun h => h.2, fun h => ⟨hX j h, h⟩⟩
  have hcf := (cfX_iff hok.ix).1 h.1
  have hsub : SubB (bOf N X) (selfV N ps) := fun j hj => (self_iff hok j).2 ⟨hX j ((hb j).1 hj), fun ha => hcf j j ha ((hb j).1 hj) ((hb j).1 hj)⟩
  refine ⟨⟨fun j => ?_, fun j h1 h2 => ?_, fun j _ h2 => ?_, fun j _ h2 => ?_⟩, ⟨fun k hk j hj => ?_, fun k hk => ?_, fun k hk => ?_⟩, ⟨hsub, subB_diff _ _, fun j hj => ?_⟩⟩
  · show _ ↔ (bOf N X).getLsbD j = true ∨ (selfV N ps &&& ~~~(bOf N X)).getLsbD j = true ∨ (0#64).getLsbD j = true
    rw [bit_sub]
    constructor
    · intro hV
      by_cases h1 : (bOf N X).getLsbD j = true
      · exact .inl h1
      · exact .inr (.inl ⟨hV, h1⟩)
    · rintro (h1 | h1 | h1)
      · exact hsub j h1
      · exact h1.1
      · simp at h1
  · exact (bit_sub.1 h2).2 h1
  · exact absurd h2 (by simp [setC])
  · exact absurd h2 (by simp [setC])
  · have hkX := (hb k).1 hk
    obtain ⟨ha, hV⟩ := (nA_bit hok _ k j).1 hj
    refine bit_sub.2 ⟨hV, fun hj2 => ?_⟩
    have hjX := (hb j).1 hj2
    rcases ha with ha | ha
    · exact hcf j k ha hjX hkX
    · exact hcf k j ha hkX hjX
  · obtain ⟨hV, hk2⟩ := bit_sub.1 hk
    obtain ⟨hkN, hkk⟩ := (self_iff hok k).1 hV
    have hkX : X k = false := Bool.eq_false_iff.2 fun h => hk2 ((hb k).2 h)
    have hno := h.2 k hkN hkX
    have hex : ¬ ∀ a b, At ps a b → addX X k a = true → addX X k b = true → False := fun hall => by
      rw [(cfX_iff hok.ix).2 hall] at hno
      cases hno
    refine Classical.byContradiction fun hn => hex fun a b hab h1 h2 => ?_
    have hmem : ∀ {j}, X j = true → (At ps j k ∨ At ps k j) → False := fun {j} hj ha => hn ⟨j, (nA_bit hok _ k j).2 ⟨ha, hsub j ((hb j).2 hj)⟩, (hb j).2 hj⟩
    have h1' : X a = true ∨ a = k := by simpa [addX] using h1
    have h2' : X b = true ∨ b = k := by simpa [addX] using h2
    rcases h1' with ha | rfl
    · rcases h2' with hb2 | rfl
      · exact hcf a b hab ha hb2
      · exact hmem ha (.inl hab)
    · rcases h2' with hb2 | rfl
      · exact hmem hb2 (.inr hab)
      · exact hkk hab
  · exact absurd hk (by simp [setC])
  · exact absurd hj (by simp [setC])
end
/-- The sets' lists are in the order of the labels' lists. -/
theorem ord_sets (f g : Nat → Int) : ∀ ks : List Nat, ks.Pairwise (fun a b => a < b) → (∀ j ∈ ks, f j = 0 ↔ g j = 0) → (∀ j ∈ ks, f j = 0 ∨ f j = 1 ∨ f j = 2) → (∀ j ∈ ks, g j = 0 ∨ g j = 1 ∨ g j = 2) → cmpF (ks.map f) (ks.map g) < 0 → (∃ j ∈ ks, g j = 1 ∧ f j ≠ 1) →
    cmpF (ints (ks.filter fun j => decide (f j = 1))) (ints (ks.filter fun j => decide (g j = 1))) < 0
  | [], _, _, _, _, h, _ => absurd (show (0 : Int) < 0 from h) (by decide)
  | k :: ks, hk, hz, hf, hg, h, hw => by
    obtain ⟨hk1, hk2⟩ := List.pairwise_cons.1 hk
    have ih := ord_sets f g ks hk2 (fun j hj => hz j (List.mem_cons_of_mem _ hj)) (fun j hj => hf j (List.mem_cons_of_mem _ hj)) (fun j hj => hg j (List.mem_cons_of_mem _ hj))
    have z := hz k (List.mem_cons_self ..)
    have fk := hf k (List.mem_cons_self ..)
    have gk := hg k (List.mem_cons_self ..)
    have h' : (if f k < g k then -1 else if g k < f k then 1 else cmpF (ks.map f) (ks.map g)) < 0 := h
    by_cases h1 : f k < g k
    · have e1 : f k = 1 := by omega
      have e2 : g k = 2 := by omega
      rw [List.filter_cons, List.filter_cons, if_pos (by simp [e1]), if_neg (by simp [e2])]
      obtain ⟨j, hj, hj1, hj2⟩ := hw
      have hjk : j ∈ ks := by
        rcases List.mem_cons.1 hj with rfl | h
        · exact absurd e1 hj2
        · exact h
      have hne : j ∈ ks.filter fun j => decide (g j = 1) := List.mem_filter.2 ⟨hjk, by simp [hj1]⟩
      cases hl : ks.filter fun j => decide (g j = 1) with
      | nil => rw [hl] at hne; cases hne
      | cons m r =>
        have hm : m ∈ ks := (List.mem_filter.1 (hl ▸ List.mem_cons_self .. : m ∈ ks.filter fun j => decide (g j = 1))).1
        have := hk1 m hm
        show (if (Int.ofNat k) < (Int.ofNat m) then -1 else _) < 0
        rw [if_pos (by show (k : Int) < (m : Int); omega)]
        decide
    · by_cases h2 : g k < f k
      · rw [if_neg h1, if_pos h2] at h'; exact absurd h' (by decide)
      · rw [if_neg h1, if_neg h2] at h'
        have e : f k = g k := by omega
        have hw' : ∃ j ∈ ks, g j = 1 ∧ f j ≠ 1 := by
          obtain ⟨j, hj, hj1, hj2⟩ := hw
          rcases List.mem_cons.1 hj with rfl | h
          · exact absurd (e.trans hj1) hj2
          · exact ⟨j, h, hj1, hj2⟩
        have := ih h' hw'
        rw [List.filter_cons, List.filter_cons]
        by_cases e1 : f k = 1
        · rw [if_pos (by simp [e1]), if_pos (by simp [← e, e1])]
          show (if (Int.ofNat k) < (Int.ofNat k) then -1 else if (Int.ofNat k) < (Int.ofNat k) then 1 else _) < 0
          rw [if_neg (Int.lt_irrefl _), if_neg (Int.lt_irrefl _)]
          exact this
        · rw [if_neg (by simp [e1]), if_neg (by simp [← e, e1])]
          exact this
theorem with_lab (N : Nat) (s : Cn) : ints (withF (labV N s) 1) = ints ((List.range N).filter fun j => decide (labF s j = 1)) := by
  unfold withF
  rw [labV_len]
  congr 1
  refine List.filter_congr fun j hj => ?_
  have hj := List.mem_range.1 hj
  have e : (labV N s)[j]? = some (labF s j) := by unfold labV rowF; simp [hj]
  rw [e]
  by_cases h : labF s j = 1
  · simp [h]
  · simp [h]
theorem lab_set {N : Nat} {V : BitVec 64} {s : Cn} (ht : Tot V s) : ints ((List.range N).filter fun j => decide (labF s j = 1)) = setL N (setX s) := by
  unfold setL
  congr 1
  refine List.filter_congr fun j _ => ?_
  unfold setX
  by_cases h : s.i.getLsbD j = true
  · have : labF s j = 1 := by unfold labF; rw [if_neg (ht.iu j h), if_neg (ht.io j h), if_pos h]
    simp [h, this]
  · have : ¬ labF s j = 1 := fun e => by
      unfold labF at e
      by_cases hu : s.u.getLsbD j = true
      · rw [if_pos hu] at e; cases e
      · by_cases ho : s.o.getLsbD j = true
        · rw [if_neg hu, if_pos ho] at e; cases e
        · rw [if_neg hu, if_neg ho, if_neg h] at e; cases e
    simp [this, h]
/-- Neither of two naive sets is in the other. -/
theorem two_sols {A : Nat → BitVec 64} {V : BitVec 64} {s t : Cn} (hs : Tot V s) (ht : Tot V t) (ls : Leg A s) (lt : Leg A t) (us : s.u = 0#64) (ut : t.u = 0#64) (hne : s ≠ t) : ∃ j, t.i.getLsbD j = true ∧ ¬ s.i.getLsbD j = true := by
  refine Classical.byContradiction fun hn => hne ?_
  have h1 : SubB t.i s.i := fun j hj => Classical.byContradiction fun h => hn ⟨j, hj, h⟩
  have h2 : SubB s.i t.i := fun k hk => by
    rcases (ht.all k).1 ((hs.all k).2 (.inl hk)) with h | h | h
    · exact h
    · obtain ⟨j, hj, hji⟩ := lt.o k h
      exact absurd (ls.i k hk j hj) (hs.io j (h1 j hji))
    · rw [ut] at h; simp at h
  have ei : s.i = t.i := h2.anti h1
  refine Cn.eq ei ?_ (us.trans ut.symm)
  refine SubB.anti (fun j hj => ?_) (fun j hj => ?_)
  · rcases (ht.all j).1 ((hs.all j).2 (.inr (.inl hj))) with h | h | h
    · rw [← ei] at h; exact absurd hj (hs.io j h)
    · exact h
    · rw [ut] at h; simp at h
  · rcases (hs.all j).1 ((ht.all j).2 (.inr (.inl hj))) with h | h | h
    · rw [ei] at h; exact absurd hj (ht.io j h)
    · exact h
    · rw [us] at h; simp at h
theorem u_zero {s : Cn} {V : BitVec 64} (h : SubC s (startN V)) : s.u = 0#64 := zero_iff.2 fun j hj => by
  have := h.u j hj
  simp [startN] at this
theorem lab_pm {N : Nat} {V : BitVec 64} {s : Cn} (hV : ∀ j, V.getLsbD j = true → j < N) (ht : Tot V s) (hu : s.u = 0#64) (j : Nat) : (labF s j = 0 ∨ labF s j = 1 ∨ labF s j = 2) ∧ (labF s j = 0 ↔ ¬ V.getLsbD j = true) := by
  have h3 : ¬ s.u.getLsbD j = true := by rw [hu]; simp
  unfold labF
  rw [if_neg h3]
  by_cases ho : s.o.getLsbD j = true
  · rw [if_pos ho]
    exact ⟨.inr (.inr rfl), Iff.intro (fun h => nomatch h) fun h => absurd ((ht.all j).2 (.inr (.inl ho))) h⟩
  · rw [if_neg ho]
    by_cases hi : s.i.getLsbD j = true
    · rw [if_pos hi]
      exact ⟨.inr (.inl rfl), Iff.intro (fun h => nomatch h) fun h => absurd ((ht.all j).2 (.inl hi)) h⟩
    · rw [if_neg hi]
      refine ⟨.inl rfl, ⟨fun _ hv => ?_, fun _ => rfl⟩⟩
      rcases (ht.all j).1 hv with h | h | h
      · exact hi h
      · exact ho h
      · exact h3 h
theorem self_lt {N : Nat} {ps : List (Int × Int)} (hok : GOk (N : Int) ps) : ∀ j, (selfV N ps).getLsbD j = true → j < N := fun j h => ((self_iff hok j).1 h).1
theorem NL.of {N : Nat} {ps : List (Int × Int)} (hok : GOk (N : Int) ps) {ls : List Cn} {sorted : List (List Int)} (h : Sols (nA (selfV N ps) ps) (selfV N ps) (startN (selfV N ps)) ls) (hp : sorted.Perm (ls.map (labV N))) (hs : sorted.Pairwise fun x y => cmpF x y < 0) : NL N ps (sorted.map fun l => ints (withF l 1)) := by
  have hN : N ≤ 64 := by have := hok.n40; omega
  have hm : ∀ l ∈ sorted, ∃ s ∈ ls, labV N s = l := fun l hl => List.mem_map.1 (hp.mem_iff.1 hl)
  have hset : ∀ s ∈ ls, ints (withF (labV N s) 1) = setL N (setX s) := fun s hs => (with_lab N s).trans (lab_set ((h.2 s).1 hs).1)
  refine ⟨?_, fun l => ?_⟩
  · rw [List.pairwise_map]
    refine List.Pairwise.imp_of_mem (fun {x y} hx hy hxy => ?_) hs
    obtain ⟨s, hs1, rfl⟩ := hm x hx
    obtain ⟨t, ht1, rfl⟩ := hm y hy
    obtain ⟨hst, hsl, hss⟩ := (h.2 s).1 hs1
    obtain ⟨htt, htl, hts⟩ := (h.2 t).1 ht1
    have hne : s ≠ t := fun e => by rw [e, cmpF_refl] at hxy; exact absurd hxy (by decide)
    obtain ⟨j, hj1, hj2⟩ := two_sols hst htt hsl htl (u_zero hss) (u_zero hts) hne
    rw [with_lab, with_lab]
    refine ord_sets (labF s) (labF t) (List.range N) List.pairwise_lt_range (fun j _ => ?_) (fun j _ => (lab_pm (self_lt hok) hst (u_zero hss) j).1) (fun j _ => (lab_pm (self_lt hok) htt (u_zero hts) j).1) hxy ⟨j, ?_, ?_, ?_⟩
    · exact (lab_pm (self_lt hok) hst (u_zero hss) j).2.trans (lab_pm (self_lt hok) htt (u_zero hts) j).2.symm
    · exact List.mem_range.2 (self_lt hok j ((htt.all j).2 (.inl hj1)))
    · unfold labF; rw [if_neg (htt.iu j hj1), if_neg (htt.io j hj1), if_pos hj1]
    · intro e
      unfold labF at e
      by_cases hu : s.u.getLsbD j = true
      · rw [if_pos hu] at e; cases e
      · by_cases ho : s.o.getLsbD j = true
        · rw [if_neg hu, if_pos ho] at e; cases e
        · rw [if_neg hu, if_neg ho, if_neg hj2] at e; cases e
  · rw [List.mem_map]
    constructor
    · rintro ⟨x, hx, rfl⟩
      obtain ⟨s, hs1, rfl⟩ := hm x hx
      obtain ⟨hst, hsl, hss⟩ := (h.2 s).1 hs1
      rw [hset s hs1]
      refine ⟨setB_setL N _, ?_⟩
      have hn := naive_of hok hst hsl hss
      have e : memB (setL N (setX s)) = setX s := by
        funext i
        rw [memB_setL]
        cases hi : setX s i
        · rw [Bool.and_false]
        · rw [decide_eq_true (self_lt hok i ((hst.all i).2 (.inl hi)))]; rfl
      rw [e]
      exact hn
    · rintro ⟨hl, hn⟩
      have hX : ∀ i, memB l i = true → i < N := fun i hi => setB_lt hl hi
      obtain ⟨h1, h2, h3⟩ := naive_to hok hX hn
      have hin := (h.2 _).2 ⟨h1, h2, h3⟩
      refine ⟨labV N (setC N ps (memB l)), hp.mem_iff.2 (List.mem_map.2 ⟨_, hin, rfl⟩), ?_⟩
      rw [hset _ hin]
      have e : setL N (setX (setC N ps (memB l))) = setL N (memB l) := setL_congr fun i hi => by
        show (bOf N (memB l)).getLsbD i = _
        rw [bOf_bit hN, decide_eq_true hi, Bool.true_and]
      rw [e, ← setB_eq hl]
def NLmore (N : Nat) (ps : List (Int × Int)) : Prop := ∃ ls : List (List Int), ls.Nodup ∧ (∀ l ∈ ls, setB N l = true ∧ naiveX N ps (memB l)) ∧ 200 < ls.length
theorem NLmore.of {N : Nat} {ps : List (Int × Int)} (hok : GOk (N : Int) ps) {ls : List Cn} (h : SomeS (nA (selfV N ps) ps) (selfV N ps) (startN (selfV N ps)) ls) (hl : 200 < ls.length) : NLmore N ps := by
  refine ⟨ls.map fun s => setL N (setX s), ?_, fun l hm => ?_, by rw [List.length_map]; exact hl⟩
  · refine List.pairwise_map.2 (List.Pairwise.imp_of_mem (fun {x y} hx hy hne e => hne ?_) h.1)
    obtain ⟨hxt, hxl, hxs⟩ := h.2 x hx
    obtain ⟨hyt, hyl, hys⟩ := h.2 y hy
    refine Classical.byContradiction fun hne => ?_
    obtain ⟨j, hj1, hj2⟩ := two_sols hxt hyt hxl hyl (u_zero hxs) (u_zero hys) hne
    have := setL_inj e j (self_lt hok j ((hyt.all j).2 (.inl hj1)))
    unfold setX at this
    rw [hj1] at this
    exact hj2 this
  · obtain ⟨s, hs, rfl⟩ := List.mem_map.1 hm
    obtain ⟨hst, hsl, hss⟩ := h.2 s hs
    refine ⟨setB_setL N _, ?_⟩
    have e : memB (setL N (setX s)) = setX s := by
      funext i
      rw [memB_setL]
      cases hi : setX s i
      · rw [Bool.and_false]
      · rw [decide_eq_true (self_lt hok i ((hst.all i).2 (.inl hi)))]; rfl
    rw [e]
    exact naive_of hok hst hsl hss
theorem NLmore.not {N : Nat} {ps : List (Int × Int)} (h : NLmore N ps) {l : List (List Int)} (hc : NL N ps l) : 200 < l.length := by
  obtain ⟨ls, h1, h2, h3⟩ := h
  have := nodup_len14 h1 fun x hx => (hc.mem x).2 (h2 x hx)
  omega
end Go.Proofs.YtfiaoibfejginaaDoor

namespace Go.Proofs.YtfiaoibfejginaaDoor
set_option linter.unusedVariables false
set_option linter.unusedSimpArgs false
open Go Go.RowKit Go.Sort

theorem nA_step {ps : List (Int × Int)} {k : Nat} (h : k < ps.length) (V : BitVec 64) {f t : Nat} (e : ps[k] = ((f : Int), (t : Int))) :
    updB (updB (nA V (ps.take k)) t (nA V (ps.take k) t ||| (oneB f &&& V))) f (updB (nA V (ps.take k)) t (nA V (ps.take k) t ||| (oneB f &&& V)) f ||| (oneB t &&& V)) = nA V (ps.take (k + 1)) := by
  funext i
  have hin : inB (ps.take (k + 1)) i = if t = i then inB (ps.take k) i ||| oneB f else inB (ps.take k) i := by
    unfold inB
    have := attB_step (ps := ps.map fun p => (p.2, p.1)) (k := k) (by rw [List.length_map]; exact h) i
    rw [← List.map_take, ← List.map_take, List.getElem_map, e] at this
    rw [this]
    by_cases hti : t = i
    · rw [if_pos hti, if_pos (by simp [hti])]; simp
    · rw [if_neg hti, if_neg (by simp only; omega)]
  have hat : attB (ps.take (k + 1)) i = if f = i then attB (ps.take k) i ||| oneB t else attB (ps.take k) i := by
    rw [attB_step h i, e]
    by_cases hfi : f = i
    · rw [if_pos hfi, if_pos (by simp [hfi])]; simp
    · rw [if_neg hfi, if_neg (by simp only; omega)]
  unfold updB nA
  rw [hin, hat]
  by_cases h1 : t = i
  · by_cases h2 : f = i
    · subst h1 h2
      simp only [if_true]
      generalize inB _ _ = I
      generalize attB _ _ = B
      generalize oneB _ = Z
      refine BitVec.eq_of_getLsbD_eq fun j _ => ?_
      simp only [BitVec.getLsbD_or, BitVec.getLsbD_and]
      cases I.getLsbD j <;> cases B.getLsbD j <;> cases Z.getLsbD j <;> cases V.getLsbD j <;> rfl
    · subst h1
      have h3 : ¬ t = f := fun e => h2 e.symm
      rw [if_neg h3, if_pos rfl, if_pos rfl, if_neg h2]
      generalize inB _ _ = I
      generalize attB _ _ = B
      generalize oneB _ = Z
      refine BitVec.eq_of_getLsbD_eq fun j _ => ?_
      simp only [BitVec.getLsbD_or, BitVec.getLsbD_and]
      cases I.getLsbD j <;> cases B.getLsbD j <;> cases Z.getLsbD j <;> cases V.getLsbD j <;> rfl
  · have h1' : ¬ i = t := fun e => h1 e.symm
    by_cases h2 : f = i
    · subst h2
      rw [if_pos rfl, if_neg h1', if_neg h1, if_pos rfl]
      generalize inB _ _ = I
      generalize attB _ _ = B
      generalize oneB _ = Z
      refine BitVec.eq_of_getLsbD_eq fun j _ => ?_
      simp only [BitVec.getLsbD_or, BitVec.getLsbD_and]
      cases I.getLsbD j <;> cases B.getLsbD j <;> cases Z.getLsbD j <;> cases V.getLsbD j <;> rfl
    · have h2' : ¬ i = f := fun e => h2 e.symm
      rw [if_neg h2', if_neg h1', if_neg h1, if_neg h2]
theorem nA_zero (V : BitVec 64) (ps : List (Int × Int)) : nA V (ps.take 0) = fun _ => 0#64 := by
  rw [List.take_zero]
  funext i
  unfold nA
  rw [show inB [] i = 0#64 from rfl, show attB [] i = 0#64 from rfl]
  refine BitVec.eq_of_getLsbD_eq fun j _ => ?_
  simp
theorem or_and_one (S V : BitVec 64) {m : Nat} (h : m < 64) : bits .or .u64 (S.toNat : Int) (bits .and .u64 (IntKind.u64.wrap (2 ^ m)) (V.toNat : Int)) = ((S ||| (oneB m &&& V)).toNat : Int) := by
  rw [wrap_one h, bits_and_bv, bits_or_bv]
theorem RowL.go {w w' : World} {B b cap : Nat} {vals : List Value} {zss : List (List Int)} (h : RowL w B b cap vals zss) (hb : Below w.heap.size w w') : RowL w' B b cap vals zss :=
  ⟨h.lo, Nat.lt_of_lt_of_le h.lt hb.size, h.c1, h.c2, h.len, fun i hi => ⟨(Below.cell (p := ⟨b, i, none⟩) hb h.lt).trans (h.cell i hi).1, (World.frozen?_of_block (w := w) (w' := w') (a := ⟨b, i, none⟩) (hb.block b h.lt)).trans (h.cell i hi).2⟩, fun i hi hi' => ⟨(h.il i hi hi').1.go hb, (h.il i hi hi').2⟩⟩
theorem cell_set14 (w : World) (b i j : Nat) (u : Value) (h : (w.cell? ⟨b, i, none⟩).isSome = true) : (w.setCell ⟨b, i, none⟩ u).cell? ⟨b, j, none⟩ = if i = j then some u else w.cell? ⟨b, j, none⟩ := by
  rw [setCell_eq]
  unfold World.cell? mapBlock at *
  simp only [Array.getElem?_modify, if_true] at *
  cases hb : w.heap[b]? with
  | none => rw [hb] at h; cases h
  | some o =>
    rw [hb] at h
    cases o with
    | cells c e fr =>
      simp only [Option.map_some, onCells] at *
      rw [Array.getElem?_setIfInBounds]
      by_cases hij : i = j
      · subst hij
        rw [if_pos rfl, if_pos rfl]
        have : i < c.size := by
          rcases Nat.lt_or_ge i c.size with h' | h'
          · exact h'
          · rw [Array.getElem?_eq_none h'] at h; cases h
        rw [if_pos this]
        simp
      · rw [if_neg hij, if_neg hij]
    | _ => cases h
theorem frozen_set14 (w : World) (b i j : Nat) (u : Value) : (w.setCell ⟨b, i, none⟩ u).frozen? ⟨b, j, none⟩ = w.frozen? ⟨b, j, none⟩ := by
  rw [setCell_eq]
  unfold World.frozen? mapBlock
  simp only [Array.getElem?_modify, if_true]
  cases hb : w.heap[b]? with
  | none => rfl
  | some o => cases o <;> rfl
theorem RowL.set {w : World} {B b cap : Nat} {vals : List Value} {zss : List (List Int)} (h : RowL w B b cap vals zss) {k : Nat} (hk : k < vals.length) {u : Value} {z : List Int} (ho : OwnI w B u z) (hne : u.ownBlock ≠ some b) : RowL (w.setCell ⟨b, k, none⟩ u) B b cap (vals.set k u) (zss.set k z) := by
  have hkeep : ∀ {v : Value} {y : List Int}, OwnI w B v y → v.ownBlock ≠ some b → OwnI (w.setCell ⟨b, k, none⟩ u) B v y := fun {v y} hv hn => owns_kept hv fun g e => Below.heap_setCell _ ⟨b, k, none⟩ _ g (by show g ≠ b; intro e2; exact hn (by rw [e, e2]))
  refine ⟨h.lo, by rw [size_setCell9]; exact h.lt, by rw [List.length_set]; exact h.c1, h.c2, by rw [List.length_set, List.length_set]; exact h.len, fun i hi => ?_, fun i hi hi' => ?_⟩
  · have hi2 : i < vals.length := by simpa using hi
    rw [cell_set14 w b k i u (by rw [(h.cell k hk).1]; rfl), frozen_set14]
    refine ⟨?_, (h.cell i hi2).2⟩
    rw [List.getElem_set]
    by_cases hki : k = i
    · rw [if_pos hki, if_pos hki]
    · rw [if_neg hki, if_neg hki]; exact (h.cell i hi2).1
  · have hi2 : i < vals.length := by simpa using hi
    have hi3 : i < zss.length := by simpa using hi'
    rw [List.getElem_set, List.getElem_set]
    by_cases hki : k = i
    · rw [if_pos hki, if_pos hki]
      exact ⟨hkeep ho hne, hne⟩
    · rw [if_neg hki, if_neg hki]
      exact ⟨hkeep (h.il i hi2 hi3).1 (h.il i hi2 hi3).2, (h.il i hi2 hi3).2⟩
/-- The lists so far. -/
def wl (l : List Int) : List Int := ints (withF l 1)
def wls (zss : List (List Int)) (k : Nat) : List (List Int) := (zss.take k).map wl ++ zss.drop k
theorem wls_len (zss : List (List Int)) (k : Nat) : (wls zss k).length = zss.length := by
  unfold wls
  rw [List.length_append, List.length_map, List.length_take, List.length_drop]
  omega
theorem wls_get {zss : List (List Int)} {k : Nat} (h : k < zss.length) : (wls zss k)[k]'(by rw [wls_len]; exact h) = zss[k] := by
  unfold wls
  have e : ((zss.take k).map wl).length = k := by rw [List.length_map, List.length_take]; omega
  rw [List.getElem_append_right (by omega)]
  simp [e, Nat.min_eq_left (Nat.le_of_lt h)]
theorem wls_step {zss : List (List Int)} {k : Nat} (h : k < zss.length) : (wls zss k).set k (wl zss[k]) = wls zss (k + 1) := by
  unfold wls
  have e : ((zss.take k).map wl).length = k := by rw [List.length_map, List.length_take]; omega
  rw [List.set_append_right _ _ (by omega), e, Nat.sub_self, List.drop_eq_getElem_cons h, List.set_cons_zero, List.take_succ_eq_append_getElem h, List.map_append, List.append_assoc]
  rfl
theorem wls_end (zss : List (List Int)) : wls zss zss.length = zss.map wl := by
  unfold wls
  simp

set_option maxRecDepth 100000 in
set_option maxHeartbeats 8000000 in
theorem sNaive_any (n : Int) (v : Value) (ps : List (Int × Int)) (w : World) (h : PairsAt w v ps) (hl : ps.length ≤ 100000) (hT : Tab w) :
    Calls Tryd.prog 14 #[.agg #[.int .i64 n, v]] w fun e w' => Below w.heap.size w w' ∧ ((valE n ps ≠ 0 ∧ e = .returned (.tuple #[.slice none 0 0, .int .i64 (valE n ps)])) ∨
      (valE n ps = 0 ∧ ((∃ (v' : Value) (ls : List (List Int)), e = .returned (.tuple #[v', .int .i64 0]) ∧ NL n.toNat ps ls ∧ ls.length ≤ 200 ∧ Srt w' w.heap.size v' ls) ∨
        (e = .returned (.tuple #[.slice none 0 0, .int .i64 2]) ∧ NLmore n.toNat ps)))) := by
  have hB := bgrow w (.cells #[.int .i64 n, v] 24)
  have H1 := hidIt (h.below hB)
  have HTG := hidIt hT.lt
  have HT := hidIt hT
  obtain ⟨a, c, rfl, hpc⟩ := h.pc
  have HPC := hidIt hpc
  have HX := hidIt (heap_alloc_new w (.cells #[.int .i64 n, .slice a ps.length c] 24))
  have HB := hidIt hB
  have HL := hidIt hl
  clear h hpc hB hT hl
  go_enter Tryd.func14, Tryd.ntmps14
  go_upto_region 1 with (fail)
  generalize (w.alloc (.cells #[.int .i64 n, .slice a ps.length c] 24)) = w1 at *
  obtain ⟨B, hBw⟩ : ∃ B, B = w.heap.size := ⟨_, rfl⟩
  have HBW := hidIt hBw
  rw [← hBw] at HX HTG ⊢
  clear hBw
  obtain ⟨x0, x1⟩ := And.intro (cell_two0 HX.out) (cell_two1 HX.out)
  have lx := lt_of_block HX.out
  go_wp2_with fail
  refine (gValidate_any n _ ps _ H1.out (by have := HL.out; omega)).mono ?_
  rintro e w2 ⟨rfl, hb⟩
  have HX2 := hidIt (blk_kept2 HX.out hb)
  have HB2 := hidIt (HB.out.trans (Below.mono hb HB.out.size))
  clear hb x0 x1 lx HX H1 HB
  by_cases hv : valE n ps = 0
  · have HOK := hidIt (valE_ok hv)
    have HV := hidIt hv
    rw [hv]
    clear hv
    obtain ⟨N, rfl⟩ : ∃ N : Nat, n = (N : Int) := ⟨n.toNat, by have := HOK.out.n0; omega⟩
    have hN : N ≤ 40 := by have := HOK.out.n40; omega
    obtain ⟨x0, x1⟩ := And.intro (cell_two0 HX2.out) (cell_two1 HX2.out)
    have lx := lt_of_block HX2.out
    go_wp2_with fail
    refine (sNodesOf_any N hN _ ⟨_, _, _, rfl⟩ _).mono ?_
    rintro e w3 ⟨rfl, hb⟩
    have HX3 := hidIt (blk_kept2 HX2.out hb)
    have HB3 := hidIt (HB2.out.trans (Below.mono hb HB2.out.size))
    clear hb x0 x1 lx HX2 HB2
    obtain ⟨x0, x1⟩ := And.intro (cell_two0 HX3.out) (cell_two1 HX3.out)
    have lx := lt_of_block HX3.out
    obtain ⟨M, hM⟩ : ∃ M, M = ps.length := ⟨_, rfl⟩
    have HM := hidIt hM
    rw [← hM] at HL HX3 x1 ⊢
    have hMl : M ≤ 100000 := HL.out
    clear hM
    have HV0 : Hid (bOf N allX = selfV N (ps.take 0)) := by
      show _ = _
      rw [List.take_zero]; rfl
    generalize bOf N allX = V0 at *
    go_wp2_with fail
    clear x0 x1 lx
    go_loopw [5, 25] (fun v5 i wr => ∃ k : Nat, k ≤ M ∧ i = .int .i64 k ∧ v5 = bv (selfV N (ps.take k)) ∧ Hid (wr.heap[B]? = some (.cells #[.int .i64 (N : Int), .slice a M c] 24 (0, 0))) ∧ Hid (Below w.heap.size w wr)) (fun _ i _ => M - (intOf i).toNat)
    case atStart => exact ⟨0, Nat.zero_le _, rfl, by rw [HV0.out], HX3.out, HB3.out⟩
    case round =>
      clear HX3 HB3 HV0
      obtain ⟨k, hk, rfl, rfl, HX, HB⟩ := hrel
      have hkI0 : (0 : Int) ≤ (k : Int) := by omega
      by_cases hlt : k < M
      · have hkI : (k : Int) < (M : Int) := by omega
        have HLT : Hid (k < ps.length) := by show k < _; rw [← HM.out]; exact hlt
        obtain ⟨b, off, rfl, lb, hcs⟩ := (HPC.out.go HB.out).at_ HLT.out
        obtain ⟨p0, p1⟩ := hcs k HLT.out
        have hmem := HOK.out.ix (ps[k]'HLT.out) (List.getElem_mem _)
        have HST := hidIt (selfV_step (N := N) HLT.out)
        obtain ⟨x, hx⟩ : ∃ x, x = ps[k]'HLT.out := ⟨_, rfl⟩
        rw [← hx] at p0 p1 hmem HST
        clear hx hcs
        obtain ⟨gx, sx⟩ := x
        simp only at p0 p1 hmem HST
        obtain ⟨⟨g0, g1⟩, s0, s1⟩ := hmem
        obtain ⟨f, rfl⟩ : ∃ f : Nat, gx = (f : Int) := ⟨gx.toNat, by omega⟩
        obtain ⟨t, rfl⟩ : ∃ t : Nat, sx = (t : Int) := ⟨sx.toNat, by omega⟩
        have hf : f < 64 := by omega
        have hf0 : (0 : Int) ≤ (f : Int) := by omega
        rw [Int.toNat_natCast] at HST
        have hg2 := bgrow wr (.cells #[.int .i64 (f : Int), .int .i64 (t : Int)] 45)
        have HQ := hidIt (heap_alloc_new wr (.cells #[.int .i64 (f : Int), .int .i64 (t : Int)] 45))
        have HX3 := hidIt (blk_kept2 HX.out hg2)
        have HB3 := hidIt (HB.out.trans (Below.mono hg2 HB.out.size))
        clear hg2 HX HB
        go_upto_region 8 with (fail)
        generalize wr.alloc (.cells #[.int .i64 (f : Int), .int .i64 (t : Int)] 45) = w5 at *
        clear p0 p1 lb
        generalize wr.heap.size = Q at *
        obtain ⟨y0, y1⟩ := And.intro (cell_two0 HQ.out) (cell_two1 HQ.out)
        have ly := lt_of_block HQ.out
        by_cases hft : (f : Int) = (t : Int)
        · have HS : Hid (selfV N (ps.take (k + 1)) = selfV N (ps.take k) &&& ~~~(oneB f)) := by show _ = _; rw [HST.out, if_pos hft]
          have hq : ((f : Int) == (t : Int)) = true := by simp [hft]
          have HAN : Hid (bits .andNot .u64 ((selfV N (ps.take k)).toNat : Int) (IntKind.u64.wrap (2 ^ f)) = ((selfV N (ps.take k) &&& ~~~(oneB f)).toNat : Int)) := by
            show _ = _
            rw [wrap_one hf, bits_andNot_bv]
          clear hft HST
          go_wp2_with fail
          rw [HAN.out, ← HS.out]
          go_roundw
          case rel => exact ⟨k + 1, by omega, by go_num, rfl, HX3.out, HB3.out⟩
          case measure => simp [intOf]; omega
        · have HS : Hid (selfV N (ps.take (k + 1)) = selfV N (ps.take k)) := by show _ = _; rw [HST.out, if_neg hft]
          have hq : ((f : Int) == (t : Int)) = false := by simp only [beq_eq_false_iff_ne, ne_eq]; exact hft
          clear hft HST
          go_wp2_with fail
          go_roundw
          case rel => exact ⟨k + 1, by omega, by go_num, by rw [HS.out], HX3.out, HB3.out⟩
          case measure => simp [intOf]; omega
      · have hkI : ¬ (k : Int) < (M : Int) := by omega
        have HSV : Hid (selfV N (ps.take k) = selfV N ps) := by
          show _ = _
          rw [List.take_of_length_le (by rw [← HM.out]; omega)]
        have HNB : Hid (∀ k, (selfV N ps).getLsbD k = true → k < N) := self_lt HOK.out
        go_upto_region 11 with (fail)
        rw [HSV.out]
        generalize hV : selfV N ps = V at *
        have HVV := hidIt hV
        clear hV HSV hkI hkI0 hlt hk
        have hBP : B < wr.heap.size := lt_of_block HX.out
        have HTZ : Hid (nA V (ps.take 0) = fun _ => 0#64) := nA_zero V ps
        go_wp2_with (with_reducible refine at_build14 rfl ?_; refine Hid.out ?_)
        refine hidIt ?_
        refine wpList_build14 rfl (.tmp 40) (.tmp 43) rfl V V V 0#64 rfl rfl ?_
        go_wp2_with (with_reducible refine at_store14 rfl ?_; refine Hid.out ?_)
        refine hidIt ?_
        refine wpList_store14 rfl (.tmp 8) (.tmp 44) rfl wr.heap.size rfl V ⟨V, V, 0#64⟩ rfl _ (heap_alloc_new wr _) rfl ?_
        intro w4 hs4 hb4
        have HB4' := hb4 wr.heap.size (Nat.le_refl _)
        have HS4 : Hid (SrW w4 wr.heap.size V (nA V (ps.take 0)) ⟨V, V, 0#64⟩ (.slice none 0 0) false) := by
          rw [HTZ.out]; exact hs4
        have hg4 : Below wr.heap.size wr w4 := (bgrow wr _).trans HB4'
        have HX4 := hidIt (blk_kept2 HX.out hg4)
        have HB4 := hidIt (HB.out.trans (Below.mono hg4 HB.out.size))
        clear hg4 hs4 hb4 HB4'
        obtain ⟨P, hP⟩ : ∃ P, P = wr.heap.size := ⟨_, rfl⟩
        rw [← hP] at HS4 hBP ⊢
        clear hP HX HB
        obtain ⟨x0, x1⟩ := And.intro (cell_two0 HX4.out) (cell_two1 HX4.out)
        have lx := lt_of_block HX4.out
        go_wp2_with fail
        go_loopw [48] (fun i wr => ∃ k : Nat, k ≤ M ∧ i = .int .i64 k ∧ Hid (SrW wr P V (nA V (ps.take k)) ⟨V, V, 0#64⟩ (.slice none 0 0) false) ∧ Hid (wr.heap[B]? = some (.cells #[.int .i64 (N : Int), .slice a M c] 24 (0, 0))) ∧ Hid (Below w.heap.size w wr)) (fun i _ => M - (intOf i).toNat)
        case atStart => exact ⟨0, Nat.zero_le _, (by first | rfl | trivial), HS4.out, HX4.out, HB4.out⟩
        case round =>
          clear HS4 HX4 HB4 x0 x1 lx
          obtain ⟨k, hk, rfl, HS, HX, HB⟩ := hrel
          have hkI0 : (0 : Int) ≤ (k : Int) := by omega
          obtain ⟨x0, x1⟩ := And.intro (cell_two0 HX.out) (cell_two1 HX.out)
          have lx := lt_of_block HX.out
          by_cases hlt : k < M
          · have hkI : (k : Int) < (M : Int) := by omega
            have HLT : Hid (k < ps.length) := by show k < _; rw [← HM.out]; exact hlt
            obtain ⟨b, off, rfl, lb, hcs⟩ := (HPC.out.go HB.out).at_ HLT.out
            obtain ⟨p0, p1⟩ := hcs k HLT.out
            have hmem := HOK.out.ix (ps[k]'HLT.out) (List.getElem_mem _)
            have HST : Hid (∀ f t : Nat, ps[k]'HLT.out = ((f : Int), (t : Int)) → updB (updB (nA V (ps.take k)) t (nA V (ps.take k) t ||| (oneB f &&& V))) f (updB (nA V (ps.take k)) t (nA V (ps.take k) t ||| (oneB f &&& V)) f ||| (oneB t &&& V)) = nA V (ps.take (k + 1))) := fun f t e => nA_step HLT.out V e
            obtain ⟨x, hx⟩ : ∃ x, x = ps[k]'HLT.out := ⟨_, rfl⟩
            rw [← hx] at p0 p1 hmem HST
            clear hx hcs
            obtain ⟨gx, sx⟩ := x
            simp only at p0 p1 hmem
            obtain ⟨⟨g0, g1⟩, s0, s1⟩ := hmem
            obtain ⟨f, rfl⟩ : ∃ f : Nat, gx = (f : Int) := ⟨gx.toNat, by omega⟩
            obtain ⟨t, rfl⟩ : ∃ t : Nat, sx = (t : Int) := ⟨sx.toNat, by omega⟩
            have HSTE := hidIt (HST.out f t rfl)
            clear HST
            have hf : f < 40 := by omega
            have ht : t < 40 := by omega
            have ht0 : (0 : Int) ≤ (t : Int) := by omega
            have htI : (t : Int) < 40 := by omega
            have hf0 : (0 : Int) ≤ (f : Int) := by omega
            have hfI : (f : Int) < 40 := by omega
            have hg2 := bgrow wr (.cells #[.int .i64 (f : Int), .int .i64 (t : Int)] 45)
            have HQ := hidIt (heap_alloc_new wr (.cells #[.int .i64 (f : Int), .int .i64 (t : Int)] 45))
            have HS3 := hidIt (HS.out.go hg2)
            have HX3 := hidIt (blk_kept2 HX.out hg2)
            have HB3 := hidIt (HB.out.trans (Below.mono hg2 HB.out.size))
            have hQP : P < wr.heap.size := HS.out.lt
            clear hg2 HS HX HB
            go_upto_region 15 with (fail)
            generalize wr.alloc (.cells #[.int .i64 (f : Int), .int .i64 (t : Int)] 45) = w5 at *
            clear p0 p1 lb x0 x1 lx
            generalize wr.heap.size = Q at *
            obtain ⟨y0, y1⟩ := And.intro (cell_two0 HQ.out) (cell_two1 HQ.out)
            have ly := lt_of_block HQ.out
            have c0 := HS3.out.by_ ht
            have f0 := HS3.out.free (1 + t)
            have lc := HS3.out.lt
            have hPB : B ≠ P := by omega
            have hPQ : Q ≠ P := by omega
            have HOR := hidIt (or_and_one (nA V (ps.take k) t) V (show f < 64 by omega))
            generalize nA V (ps.take k) = A0 at *
            go_big_region
            rw [HOR.out]
            have HS6 : Hid (SrW (w5.setCell ⟨P, 1 + t, none⟩ (bv (A0 t ||| (oneB f &&& V)))).drew P V (updB A0 t (A0 t ||| (oneB f &&& V))) ⟨V, V, 0#64⟩ (.slice none 0 0) false) := HS3.out.setA ht _
            have HX6 : Hid ((w5.setCell ⟨P, 1 + t, none⟩ (bv (A0 t ||| (oneB f &&& V)))).drew.heap[B]? = some (.cells #[.int .i64 (N : Int), .slice (some ⟨b, off, none⟩) M c] 24 (0, 0))) := (Below.heap_setCell w5 ⟨P, 1 + t, none⟩ _ B hPB).trans HX3.out
            have HQ6 : Hid ((w5.setCell ⟨P, 1 + t, none⟩ (bv (A0 t ||| (oneB f &&& V)))).drew.heap[Q]? = some (.cells #[.int .i64 (f : Int), .int .i64 (t : Int)] 45 (0, 0))) := (Below.heap_setCell w5 ⟨P, 1 + t, none⟩ _ Q hPQ).trans HQ.out
            have HB6 : Hid (Below w.heap.size w (w5.setCell ⟨P, 1 + t, none⟩ (bv (A0 t ||| (oneB f &&& V)))).drew) := by
              have h := below_set5 (b := P) (i := 1 + t) (u := bv (A0 t ||| (oneB f &&& V))) HB3.out (by have := HBW.out; omega)
              exact ⟨h.os, h.tape, h.output, h.size, h.block⟩
            clear y0 y1 ly c0 f0 lc HS3 HX3 HB3 HQ HOR
            go_upto_region 16 with (fail)
            generalize (w5.setCell ⟨P, 1 + t, none⟩ (bv (A0 t ||| (oneB f &&& V)))).drew = w6 at *
            generalize updB A0 t (A0 t ||| (oneB f &&& V)) = A1 at *
            obtain ⟨y0, y1⟩ := And.intro (cell_two0 HQ6.out) (cell_two1 HQ6.out)
            have ly := lt_of_block HQ6.out
            have c0 := HS6.out.by_ hf
            have f0 := HS6.out.free (1 + f)
            have lc := HS6.out.lt
            have HOR := hidIt (or_and_one (A1 f) V (show t < 64 by omega))
            go_big_region
            rw [HOR.out]
            have HS7 : Hid (SrW (w6.setCell ⟨P, 1 + f, none⟩ (bv (A1 f ||| (oneB t &&& V)))).drew P V (nA V (ps.take (k + 1))) ⟨V, V, 0#64⟩ (.slice none 0 0) false) := by
              rw [← HSTE.out]
              exact HS6.out.setA hf _
            have HX7 : Hid ((w6.setCell ⟨P, 1 + f, none⟩ (bv (A1 f ||| (oneB t &&& V)))).drew.heap[B]? = some (.cells #[.int .i64 (N : Int), .slice (some ⟨b, off, none⟩) M c] 24 (0, 0))) := (Below.heap_setCell w6 ⟨P, 1 + f, none⟩ _ B hPB).trans HX6.out
            have HB7 : Hid (Below w.heap.size w (w6.setCell ⟨P, 1 + f, none⟩ (bv (A1 f ||| (oneB t &&& V)))).drew) := by
              have h := below_set5 (b := P) (i := 1 + f) (u := bv (A1 f ||| (oneB t &&& V))) HB6.out (by have := HBW.out; omega)
              exact ⟨h.os, h.tape, h.output, h.size, h.block⟩
            clear y0 y1 ly c0 f0 lc HS6 HX6 HB6 HQ6 HOR HSTE
            go_upto_region 17 with (fail)
            generalize (w6.setCell ⟨P, 1 + f, none⟩ (bv (A1 f ||| (oneB t &&& V)))).drew = w7 at *
            go_wp2_with fail
            go_roundw
            case rel => exact ⟨k + 1, by omega, by go_num, HS7.out, HX7.out, HB7.out⟩
            case measure => simp [intOf]; omega
          · have hkI : ¬ (k : Int) < (M : Int) := by omega
            have HE : Hid (SrW wr P V (nA V ps) ⟨V, V, 0#64⟩ (.slice none 0 0) false) := by
              have := HS.out
              rwa [List.take_of_length_le (by rw [← HM.out]; omega)] at this
            have HTr : Hid (Tab wr) := HT.out.go HB.out
            have HAS : Hid (∀ k, V.getLsbD k = true → SubB (nA V ps k) V) := fun k _ => nA_sub V ps k
            have HCS : Hid (SubB ((⟨V, V, 0#64⟩ : Cn).i ||| (⟨V, V, 0#64⟩ : Cn).o ||| (⟨V, V, 0#64⟩ : Cn).u) V) := fun j hj => by
              rcases bit_or.1 hj with h1 | h1
              · rcases bit_or.1 h1 with h2 | h2
                · exact h2
                · exact h2
              · simp at h1
            have hgP : 0 < P := by have := HTG.out; omega
            have HGP := hidIt hgP
            clear hgP
            go_wp2_with fail
            refine (sRun_any P N V (nA V ps) ⟨V, V, 0#64⟩ _ HE.out HTr.out HGP.out hN HNB.out HAS.out HCS.out).mono ?_
            rintro e w9 ⟨hb9, hr9⟩
            have HB9 := hidIt (HB.out.trans (hb9.below (by have := HBW.out; omega) HB.out.size))
            have HWS : Hid (w.heap.size ≤ wr.heap.size) := HB.out.size
            rcases hr9 with ⟨v9, ls, sorted, rfl, hso, hll, hsp, hss, hsr⟩ | ⟨rfl, ls, hsm, hll⟩
            · have HNL : Hid (NL N ps (sorted.map wl)) := by
                rw [← HVV.out] at hso
                exact NL.of HOK.out hso hsp hss
              have hsl : sorted.length ≤ 200 := by rw [hsp.length_eq, List.length_map]; exact hll
              have HSL : Hid (∀ l ∈ sorted, l.length ≤ 1000) := fun l hl => by
                obtain ⟨s, -, rfl⟩ := List.mem_map.1 (hsp.mem_iff.1 hl)
                rw [labV_len]; omega
              have HSR := hidIt (hsr.base HWS.out)
              clear hso hll hsp hss hsr
              rcases HSR.out with ⟨hs0, ⟨a9, c9, rfl⟩, hll⟩ | ⟨b9, cap, vals, rfl, hrow⟩
              · subst hs0
                have HLL := hidIt hll
                clear hll
                go_wp2_with fail
                refine wp_loop_rounds 1 ?_
                rw [rounds_succ]
                go_wp2_with fail
                refine bodyPost_ret (v := .tuple #[.slice a9 0 c9, .int .i64 0]) (by simp [results, Tryd.results14]) rfl ?_
                exact ⟨HB9.out, .inr ⟨HV.out, .inl ⟨_, [], rfl, by rw [Int.toNat_natCast]; exact HNL.out, by decide, .inl ⟨rfl, ⟨a9, c9, rfl⟩, HLL.out⟩⟩⟩⟩
              · have HROW := hidIt hrow
                obtain ⟨S, hS⟩ : ∃ S, S = sorted.length := ⟨_, rfl⟩
                have HSS := hidIt hS
                have hbW : w.heap.size ≤ b9 := hrow.lo
                rw [← hS] at hsl
                clear hrow HSR
                rw [← hS]
                clear hS
                go_wp2_with fail
                go_loopw [13, 14, 87] (fun _ _ i wr => ∃ (k : Nat) (vals : List Value), k ≤ S ∧ i = .int .i64 k ∧ Hid (RowL wr w.heap.size b9 cap vals (wls sorted k)) ∧ Hid (Below w.heap.size w wr)) (fun _ _ i _ => S - (intOf i).toNat)
                case atStart => exact ⟨0, vals, Nat.zero_le _, rfl, HROW.out, HB9.out⟩
                case round =>
                  clear HROW HB9
                  obtain ⟨k, vals, hk, rfl, HR, HB⟩ := hrel
                  have hkI0 : (0 : Int) ≤ (k : Int) := by omega
                  by_cases hlt : k < S
                  · have hkI : (k : Int) < (S : Int) := by omega
                    have hks : k < sorted.length := by rw [← HSS.out]; exact hlt
                    have hkv : k < vals.length := by rw [HR.out.len, wls_len]; exact hks
                    obtain ⟨cv, fv⟩ := HR.out.cell k hkv
                    have hil := (HR.out.il k hkv (by rw [wls_len]; exact hks)).1
                    rw [wls_get hks] at hil
                    have HIL := hidIt hil
                    have HLEN := hidIt (HSL.out _ (List.getElem_mem hks))
                    have HWL := hidIt (wls_step hks)
                    have HKV := hidIt hkv
                    have lb := HR.out.lt
                    clear hil
                    generalize sorted[k] = l at *
                    generalize vals[k] = u at *
                    obtain ⟨au, cu, rfl, -, -⟩ := shape_own HIL.out
                    clear hks hkv
                    go_wp2_with fail
                    refine (lWith_any _ l 1 _ HIL.out.il (by have := HLEN.out; omega)).mono ?_
                    rintro e w5 ⟨a5, c5, rfl, ho5, hb5⟩
                    have HR5 := hidIt (HR.out.go hb5)
                    have HB5 := hidIt (HB.out.trans (Below.mono hb5 HB.out.size))
                    have hne : (Value.slice a5 (withF l 1).length c5).ownBlock ≠ some b9 := fun e => by
                      have := (owns_blk ho5 b9 e).1
                      omega
                    have HO5 := hidIt (ho5.base14 HB.out.size)
                    have HNE := hidIt hne
                    clear cv fv lb ho5 hb5 HR HB hne
                    obtain ⟨cv, fv⟩ := HR5.out.cell k HKV.out
                    have lb := HR5.out.lt
                    have HR6 := hidIt (HR5.out.set HKV.out HO5.out HNE.out)
                    have HB6 := hidIt (below_set5 (b := b9) (i := k) (u := .slice a5 (withF l 1).length c5) HB5.out hbW)
                    rw [show ints (withF l 1) = wl l from rfl, HWL.out] at HR6
                    generalize vals[k]'HKV.out = u6 at *
                    go_wp2_with fail
                    go_roundw
                    case rel => exact ⟨k + 1, _, by omega, by go_num, HR6.out, HB6.out⟩
                    case measure => simp [intOf]; omega
                  · have hkI : ¬ (k : Int) < (S : Int) := by omega
                    have HRE : Hid (RowL wr w.heap.size b9 cap vals (sorted.map wl)) := by
                      have := HR.out
                      rwa [show k = sorted.length by have := HSS.out; omega, wls_end] at this
                    have HLE : Hid ((sorted.map wl).length = S) := by show _ = _; rw [List.length_map]; exact HSS.out.symm
                    go_wp2_with fail
                    refine bodyPost_ret (v := .tuple #[.slice (some ⟨b9, 0, none⟩) S cap, .int .i64 0]) (by simp [results, Tryd.results14]) rfl ?_
                    have hfin : NL ((N : Int)).toNat ps (sorted.map wl) ∧ (sorted.map wl).length ≤ 200 ∧ Srt wr w.heap.size (.slice (some ⟨b9, 0, none⟩) S cap) (sorted.map wl) := ⟨by rw [Int.toNat_natCast]; exact HNL.out, by rw [HLE.out]; exact hsl, .inr ⟨b9, cap, vals, by rw [HLE.out], HRE.out⟩⟩
                    first
                      | exact ⟨HB.out, .inr ⟨HV.out, .inl ⟨_, sorted.map wl, rfl, hfin⟩⟩⟩
                      | exact ⟨HB.out, .inr ⟨HV.out, .inl ⟨_, rfl, sorted.map wl, hfin⟩⟩⟩
            · have HNM : Hid (NLmore N ps) := by
                rw [← HVV.out] at hsm
                exact NLmore.of HOK.out hsm hll
              go_wp2_with fail
              refine wp_loop_rounds 1 ?_
              rw [rounds_succ]
              go_wp2_with fail
              refine bodyPost_ret (v := .tuple #[.slice none 0 0, .int .i64 2]) (by simp [results, Tryd.results14]) rfl ?_
              exact ⟨HB9.out, .inr ⟨HV.out, .inr ⟨rfl, by rw [Int.toNat_natCast]; exact HNM.out⟩⟩⟩
  · have hne : (valE n ps != 0) = true := by simpa using hv
    have HV := hidIt hv
    clear hv
    go_wp2_with fail
    refine bodyPost_ret (v := .tuple #[.slice none 0 0, .int .i64 (valE n ps)]) (by simp [results, Tryd.results14]) rfl ?_
    exact ⟨HB2.out, .inl ⟨HV.out, rfl⟩⟩
end Go.Proofs.YtfiaoibfejginaaDoor

namespace Go.Proofs.YtfiaoibfejginaaDoor
set_option linter.unusedVariables false
set_option linter.unusedSimpArgs false
open Go Go.RowKit Go.Sort

/-- n pairs of nodes that attack each other. -/
def pairsL : Nat → List (Int × Int)
  | 0 => []
  | n + 1 => pairsL n ++ [(2 * (n : Int), 2 * (n : Int) + 1), (2 * (n : Int) + 1, 2 * (n : Int))]
theorem pairsL_len : ∀ n, (pairsL n).length = 2 * n
  | 0 => rfl
  | n + 1 => by
    have := pairsL_len n
    rw [pairsL, List.length_append, this]
    simp only [List.length_cons, List.length_nil]
    omega
theorem box_set1 {w : World} {P : Nat} {u v y : Value} {t : TypeId} (h : w.heap[P]? = some (.cells #[u, v] t (0, 0))) : (w.setCell ⟨P, 1, none⟩ y).heap[P]? = some (.cells #[u, y] t (0, 0)) := by
  have := set_cells (i := 1) (u := y) h
  simpa using this
theorem wpList_append_two {w : World} {ops : Array Oper} {rest : List Oper} {o : Oper} {a : Act} {Q : Exit → Act → World → Prop} (hgd : o.guard = none) (s x : Operand)
    (ho : o.op = .call { callee := .builtin .append, args := #[s, x], argTypes := #[22, 22] }) (B : Nat) (v : Value) (ps : List (Int × Int)) (hs : a.eval s = v) (hown : OwnP w B v ps)
    (m c1 : Nat) (hx : a.eval x = .slice (some ⟨m, 0, none⟩) 2 c1) (p q : Int × Int) (hm : w.heap[m]? = some (.cells #[.int .i64 p.1, .int .i64 p.2, .int .i64 q.1, .int .i64 q.2] 45 (0, 0))) (hlen : ps.length ≤ 1000000) (hB : B ≤ w.heap.size)
    (h : ∀ g cap w', OwnP w' B (.slice (some ⟨g, 0, none⟩) (ps.length + 2) cap) (ps ++ [p, q]) → w.grownBy w' v.ownBlock → wpList Tryd.prog ops Q rest (a.put o.dst (.slice (some ⟨g, 0, none⟩) (ps.length + 2) cap)) w') : wpList Tryd.prog ops Q (o :: rest) a w := by
  obtain ⟨i, z, hi, hz, hk, hb, hzc⟩ := elemP.info
  refine wpList_append_own w hgd s x 22 ho B 45 i z 2 16 elemP.und hi hz hk hb hzc (by decide) v ps.length _ hs hown ⟨m, 0, none⟩ 2 c1 _ hx (by rfl) (cells_news hm) (one_of (by rfl)) (by unfold maxLen; omega) (by omega) hB fun v' w' h2 h3 _ => ?_
  obtain ⟨g, cap, rfl, -⟩ := owns_slice h2
  refine h g cap w' ?_ h3
  unfold OwnP
  rw [List.length_append, List.flatMap_append]
  exact h2

set_option maxRecDepth 100000 in
set_option maxHeartbeats 4000000 in
theorem sPairs_any (n : Nat) (hn : n ≤ 20) (w : World) : Calls Tryd.prog 28 #[.int .i64 (n : Int)] w fun e w' => ∃ v, e = .returned (.agg #[.int .i64 (2 * (n : Int)), v]) ∧ OwnP w' w.heap.size v (pairsL n) ∧ Below w.heap.size w w' := by
  have TB := hidIt (two_boxes w (.cells #[.int .i64 0, .slice none 0 0] 24) (.cells #[.int .i64 (2 * (n : Int)), .slice none 0 0] 24))
  have hsz : ((w.alloc (.cells #[.int .i64 0, .slice none 0 0] 24)).alloc (.cells #[.int .i64 (2 * (n : Int)), .slice none 0 0] 24)).heap.size = w.heap.size + 2 := by rw [World.size_alloc, World.size_alloc]
  have hmul : IntKind.i64.wrap (2 * (n : Int)) = 2 * (n : Int) := IntWalk.i64_in _ (by omega)
  have HSZ := hidIt hsz
  clear hsz
  go_enter Tryd.func28, Tryd.ntmps28
  go_upto_region 2 with (fail)
  have HR := hidIt TB.out.1.1
  have HQ := hidIt TB.out.1.2
  have HB := hidIt TB.out.2
  have HP : Hid (OwnP ((w.alloc (.cells #[.int .i64 0, .slice none 0 0] 24)).alloc (.cells #[.int .i64 (2 * (n : Int)), .slice none 0 0] 24)) (w.heap.size + 2) (.slice none 0 0) (pairsL 0)) := OwnP.nil _ _
  clear TB HSZ hmul
  generalize ((w.alloc (.cells #[.int .i64 0, .slice none 0 0] 24)).alloc (.cells #[.int .i64 (2 * (n : Int)), .slice none 0 0] 24)) = w2 at *
  obtain ⟨R, hR⟩ : ∃ R, R = w.heap.size := ⟨_, rfl⟩
  have HRW := hidIt hR
  rw [← hR] at HR HQ HP ⊢
  clear hR
  go_wp2_with fail
  go_loopw [4] (fun v4 wr => ∃ (k : Nat) (a : Option Addr) (c : Nat), k ≤ n ∧ v4 = .int .i64 k ∧ Hid (wr.heap[R]? = some (.cells #[.int .i64 0, .slice none 0 0] 24 (0, 0))) ∧ Hid (wr.heap[R + 1]? = some (.cells #[.int .i64 (2 * (n : Int)), .slice a (2 * k) c] 24 (0, 0))) ∧ Hid (OwnP wr (R + 2) (.slice a (2 * k) c) (pairsL k)) ∧ Hid (Below w.heap.size w wr)) (fun v4 _ => n - (intOf v4).toNat)
  case atStart => exact ⟨0, none, 0, Nat.zero_le _, rfl, HR, HQ, HP, HB⟩
  case round =>
    clear HR HQ HP HB
    obtain ⟨k, a, c, hk, rfl, HR, HQ, HP, HB⟩ := hrel
    have hk0 : (0 : Int) ≤ (k : Int) := by omega
    obtain ⟨y0, y1⟩ := And.intro (cell_two0 HQ.out) (cell_two1 HQ.out)
    have ly := lt_of_block HQ.out
    by_cases hlt : k < n
    · have hkI : (k : Int) < (n : Int) := by omega
      have hm1 : IntKind.i64.wrap (2 * (k : Int)) = 2 * (k : Int) := IntWalk.i64_in _ (by omega)
      have hm2 : IntKind.i64.wrap (2 * (k : Int) + 1) = 2 * (k : Int) + 1 := IntWalk.i64_in _ (by omega)
      have hg5 := bgrow wr (.cells #[.int .i64 (2 * (k : Int)), .int .i64 (2 * (k : Int) + 1), .int .i64 (2 * (k : Int) + 1), .int .i64 (2 * (k : Int))] 45)
      have HR5 := hidIt (blk_kept2 HR.out hg5)
      have HQ5 := hidIt (blk_kept2 HQ.out hg5)
      have HP5 := hidIt (HP.out.go hg5)
      have HB5 := hidIt (HB.out.trans (Below.mono hg5 HB.out.size))
      have hsz5 : R + 2 ≤ (wr.alloc (.cells #[.int .i64 (2 * (k : Int)), .int .i64 (2 * (k : Int) + 1), .int .i64 (2 * (k : Int) + 1), .int .i64 (2 * (k : Int))] 45)).heap.size := by
        have := lt_of_block HQ5.out; omega
      have hplen : (pairsL k).length = 2 * k := pairsL_len k
      clear hg5
      go_wp2_with (at_builtin; refine Hid.out ?_)
      refine hidIt ?_
      refine wpList_append_two rfl (.tmp 14) (.tmp 27) rfl (R + 2) (.slice a (2 * k) c) (pairsL k) rfl HP5.out wr.heap.size 2 rfl (2 * (k : Int), 2 * (k : Int) + 1) (2 * (k : Int) + 1, 2 * (k : Int)) (heap_alloc_new _ _) (by omega) hsz5 ?_
      intro g6 c6 w6 hown6 hg6
      rw [hplen, show 2 * k + 2 = 2 * (k + 1) by omega] at hown6 ⊢
      have hne : ∀ x, x < R + 2 → some x ≠ (Value.slice a (2 * k) c).ownBlock := fun x hx e => by
        have := (owns_blk HP5.out x e.symm).1
        omega
      have HR6 := hidIt ((hg6.block R (by omega) (hne R (by omega))).trans HR5.out)
      have HQ6 := hidIt ((hg6.block (R + 1) (by omega) (hne (R + 1) (by omega))).trans HQ5.out)
      have HP6 : Hid (OwnP w6 (R + 2) (.slice (some ⟨g6, 0, none⟩) (2 * (k + 1)) c6) (pairsL (k + 1))) := hown6
      have HB6 := hidIt (below_app5 HB5.out hg6 (fun g e => by have := (owns_blk HP5.out g e).1; have := HRW.out; omega) (by have := HRW.out; omega))
      have hgR : R + 2 ≤ g6 := (owns_blk hown6 g6 rfl).1
      clear hown6 hg6 hne HR5 HQ5 HP5 HB5 hsz5 y0 y1 ly HR HQ HP HB
      obtain ⟨y0, y1⟩ := And.intro (cell_two0 HQ6.out) (cell_two1 HQ6.out)
      have ly := lt_of_block HQ6.out
      have f1 := free_any HQ6.out 1
      go_upto_region 4 with (fail)
      have HQ7 := hidIt (box_set1 (y := .slice (some ⟨g6, 0, none⟩) (2 * (k + 1)) c6) HQ6.out)
      have HR7 := hidIt ((Below.heap_setCell w6 ⟨R + 1, 1, none⟩ (.slice (some ⟨g6, 0, none⟩) (2 * (k + 1)) c6) R (by show R ≠ R + 1; omega)).trans HR6.out)
      have HP7 : Hid (OwnP (w6.setCell ⟨R + 1, 1, none⟩ (.slice (some ⟨g6, 0, none⟩) (2 * (k + 1)) c6)) (R + 2) (.slice (some ⟨g6, 0, none⟩) (2 * (k + 1)) c6) (pairsL (k + 1))) := owns_kept HP6.out fun g e => Below.heap_setCell w6 ⟨R + 1, 1, none⟩ _ g (by have := (owns_blk HP6.out g e).1; show g ≠ R + 1; omega)
      have HB7 := hidIt (below_set5 (b := R + 1) (i := 1) (u := .slice (some ⟨g6, 0, none⟩) (2 * (k + 1)) c6) HB6.out (by have := HRW.out; omega))
      clear y0 y1 ly f1 HQ6 HR6 HP6 HB6
      generalize (w6.setCell ⟨R + 1, 1, none⟩ (.slice (some ⟨g6, 0, none⟩) (2 * (k + 1)) c6)) = w7 at *
      go_wp2_with fail
      go_roundw
      case rel => exact ⟨k + 1, some ⟨g6, 0, none⟩, c6, by omega, by go_num, HR7, HQ7, HP7, HB7⟩
      case measure => simp [intOf]; omega
    · obtain rfl : k = n := by omega
      have hkI : ¬ (k : Int) < (k : Int) := by omega
      obtain ⟨x0, x1⟩ := And.intro (cell_two0 HR.out) (cell_two1 HR.out)
      have lx := lt_of_block HR.out
      have f0 := free_any HR.out 0
      have f1 := free_any HR.out 1
      go_wp2_with fail
      have HR8 := hidIt (box_set2 (x := .int .i64 (2 * (k : Int))) (y := .slice a (2 * k) c) HR.out)
      have HB8 := hidIt (below_set5 (b := R) (i := 1) (u := .slice a (2 * k) c) (below_set5 (b := R) (i := 0) (u := .int .i64 (2 * (k : Int))) HB.out (by have := HRW.out; omega)) (by have := HRW.out; omega))
      have HP8 : Hid (OwnP ((wr.setCell ⟨R, 0, none⟩ (.int .i64 (2 * (k : Int)))).setCell ⟨R, 1, none⟩ (.slice a (2 * k) c)) (R + 2) (.slice a (2 * k) c) (pairsL k)) := owns_kept HP.out fun g e => by
        have := (owns_blk HP.out g e).1
        exact (Below.heap_setCell _ ⟨R, 1, none⟩ _ g (by show g ≠ R; omega)).trans (Below.heap_setCell _ ⟨R, 0, none⟩ _ g (by show g ≠ R; omega))
      have r0 := cell_two0 HR8.out
      have r1 := cell_two1 HR8.out
      have lr := lt_of_block HR8.out
      refine bodyPost_ret (v := .agg #[.int .i64 (2 * (k : Int)), .slice a (2 * k) c]) (by simp [results, Tryd.results28, go_sem, r0, r1, lr]) rfl ?_
      have hP9 : OwnP ((wr.setCell ⟨R, 0, none⟩ (.int .i64 (2 * (k : Int)))).setCell ⟨R, 1, none⟩ (.slice a (2 * k) c)) w.heap.size (.slice a (2 * k) c) (pairsL k) := by
        refine ⟨HP8.out.1, ?_⟩
        rcases HP8.out.2 with h | ⟨g, cap, cur, h1, h2, h3⟩
        · exact .inl h
        · exact .inr ⟨g, cap, cur, h1, by have := HRW.out; omega, h3⟩
      first
        | exact ⟨_, rfl, hP9, HB8.out⟩
        | exact ⟨rfl, hP9, HB8.out⟩
end Go.Proofs.YtfiaoibfejginaaDoor

namespace Go.Proofs.YtfiaoibfejginaaDoor
set_option linter.unusedVariables false
set_option linter.unusedSimpArgs false
open Go Go.RowKit Go.Sort

theorem pairs1 : pairsL 1 = [(0, 1), (1, 0)] := rfl
theorem val1 : valE 2 [(0, 1), (1, 0)] = 0 := by decide
theorem val0 : valE 0 [] = 0 := by decide
theorem two_list {l : List Int} (h : validB 2 l = true) : ∃ x y : Int, l = [x, y] ∧ (x = 1 ∨ x = 2 ∨ x = 3) ∧ (y = 1 ∨ y = 2 ∨ y = 3) := by
  obtain ⟨h1, h2⟩ := validB_iff.1 h
  match l, h1, h2 with
  | [x, y], _, h2 => exact ⟨x, y, rfl, h2 x (by simp), h2 y (by simp)⟩
theorem cl1 : CL 2 [(0, 1), (1, 0)] [[1, 2], [2, 1], [3, 3]] := by
  refine ⟨by decide, fun l => ?_⟩
  constructor
  · intro h
    simp only [List.mem_cons, List.not_mem_nil, or_false] at h
    rcases h with rfl | rfl | rfl <;> decide
  · intro h
    obtain ⟨x, y, rfl, hx, hy⟩ := two_list (Bool.and_eq_true _ _ ▸ h : validB 2 l = true ∧ _).1
    rcases hx with rfl | rfl | rfl <;> rcases hy with rfl | rfl | rfl <;> first | (revert h; decide) | decide
theorem cl0 : CL 0 [] [[]] := by
  refine ⟨by decide, fun l => ?_⟩
  constructor
  · intro h
    simp only [List.mem_cons, List.not_mem_nil, or_false] at h
    subst h
    decide
  · intro h
    have := (validB_iff.1 (Bool.and_eq_true _ _ ▸ h : validB 0 l = true ∧ _).1).1
    rw [List.eq_nil_of_length_eq_zero this]
    exact List.mem_cons_self ..
theorem nl1 : NL 2 [(0, 1), (1, 0)] [[0], [1]] := by
  have hok : GOk ((2 : Nat) : Int) [(0, 1), (1, 0)] := valE_ok val1
  have key : ∀ X : Nat → Bool, (naiveX 2 [(0, 1), (1, 0)] X ↔ X 0 = !(X 1)) := fun X => by
    have hc : ∀ Y : Nat → Bool, cfX [(0, 1), (1, 0)] Y = !(Y 0 && Y 1) := fun Y => by
      show (!((Y 0 && Y 1) || ((Y 1 && Y 0) || false))) = _
      cases Y 0 <;> cases Y 1 <;> rfl
    unfold naiveX
    rw [hc]
    constructor
    · rintro ⟨h1, h2⟩
      cases e0 : X 0 <;> cases e1 : X 1
      · have := h2 0 (by decide) e0
        rw [hc] at this
        simp [addX, e1] at this
      · rfl
      · rfl
      · rw [e0, e1] at h1; cases h1
    · intro h
      refine ⟨by rw [h]; cases X 1 <;> rfl, fun k hk hX => ?_⟩
      rw [hc]
      rcases (show k = 0 ∨ k = 1 by omega) with rfl | rfl
      · rw [hX] at h
        have h1 : X 1 = true := by cases e : X 1 <;> rw [e] at h <;> first | rfl | cases h
        simp [addX, h1]
      · rw [hX] at h
        simp [addX, h]
  refine ⟨by decide, fun l => ?_⟩
  rw [key]
  constructor
  · intro h
    simp only [List.mem_cons, List.not_mem_nil, or_false] at h
    rcases h with rfl | rfl <;> decide
  · rintro ⟨h1, h2⟩
    rw [setB_eq h1]
    cases e1 : memB l 1
    · have e : setL 2 (memB l) = [0] := by
        rw [setL_congr (N := 2) (Y := fun i => decide (i = 0)) (fun i hi => by
          rcases (show i = 0 ∨ i = 1 by omega) with rfl | rfl
          · rw [h2, e1]; rfl
          · rw [e1]; rfl)]
        decide
      rw [e]; decide
    · have e : setL 2 (memB l) = [1] := by
        rw [setL_congr (N := 2) (Y := fun i => decide (i = 1)) (fun i hi => by
          rcases (show i = 0 ∨ i = 1 by omega) with rfl | rfl
          · rw [h2, e1]; rfl
          · rw [e1]; rfl)]
        decide
      rw [e]; decide
/-- Fresh lists of numbers, and a list of them. -/
theorem cellN14 {w : World} {b : Nat} {cs : Array Value} {t : TypeId} (h : w.heap[b]? = some (.cells cs t (0, 0))) (i : Nat) : w.cell? ⟨b, i, none⟩ = cs[i]? := by simp [World.cell?, h]
theorem ir_new (w : World) (zs : List Int) : IR (w.alloc (.cells (intRow zs) 3)) w.heap.size zs := heap_alloc_new w _
theorem lit3 (w : World) : LL ((((w.alloc (.cells #[.int .i64 1, .int .i64 2] 3)).alloc (.cells #[.int .i64 2, .int .i64 1] 3)).alloc (.cells #[.int .i64 3, .int .i64 3] 3)).alloc (.cells #[.slice (some ⟨w.heap.size, 0, none⟩) 2 2, .slice (some ⟨w.heap.size + 1, 0, none⟩) 2 2, .slice (some ⟨w.heap.size + 1 + 1, 0, none⟩) 2 2] 25)) (.slice (some ⟨w.heap.size + 1 + 1 + 1, 0, none⟩) 3 3) [[1, 2], [2, 1], [3, 3]] ∧
    Below w.heap.size w ((((w.alloc (.cells #[.int .i64 1, .int .i64 2] 3)).alloc (.cells #[.int .i64 2, .int .i64 1] 3)).alloc (.cells #[.int .i64 3, .int .i64 3] 3)).alloc (.cells #[.slice (some ⟨w.heap.size, 0, none⟩) 2 2, .slice (some ⟨w.heap.size + 1, 0, none⟩) 2 2, .slice (some ⟨w.heap.size + 1 + 1, 0, none⟩) 2 2] 25)) := by
  have b1 := bgrow w (.cells #[.int .i64 1, .int .i64 2] 3)
  have h1 : IR (w.alloc (.cells #[.int .i64 1, .int .i64 2] 3)) w.heap.size [1, 2] := ir_new w [1, 2]
  have s1 : (w.alloc (.cells #[.int .i64 1, .int .i64 2] 3)).heap.size = w.heap.size + 1 := World.size_alloc ..
  generalize w.alloc (.cells #[.int .i64 1, .int .i64 2] 3) = w1 at *
  have b2 := bgrow w1 (.cells #[.int .i64 2, .int .i64 1] 3)
  have h2 : IR (w1.alloc (.cells #[.int .i64 2, .int .i64 1] 3)) w1.heap.size [2, 1] := ir_new w1 [2, 1]
  have s2 : (w1.alloc (.cells #[.int .i64 2, .int .i64 1] 3)).heap.size = w1.heap.size + 1 := World.size_alloc ..
  generalize w1.alloc (.cells #[.int .i64 2, .int .i64 1] 3) = w2 at *
  have b3 := bgrow w2 (.cells #[.int .i64 3, .int .i64 3] 3)
  have h3 : IR (w2.alloc (.cells #[.int .i64 3, .int .i64 3] 3)) w2.heap.size [3, 3] := ir_new w2 [3, 3]
  have s3 : (w2.alloc (.cells #[.int .i64 3, .int .i64 3] 3)).heap.size = w2.heap.size + 1 := World.size_alloc ..
  generalize w2.alloc (.cells #[.int .i64 3, .int .i64 3] 3) = w3 at *
  rw [← s1, ← s2, ← s3]
  have b4 := bgrow w3 (.cells #[.slice (some ⟨w.heap.size, 0, none⟩) 2 2, .slice (some ⟨w1.heap.size, 0, none⟩) 2 2, .slice (some ⟨w2.heap.size, 0, none⟩) 2 2] 25)
  have h4 := heap_alloc_new w3 (.cells #[.slice (some ⟨w.heap.size, 0, none⟩) 2 2, .slice (some ⟨w1.heap.size, 0, none⟩) 2 2, .slice (some ⟨w2.heap.size, 0, none⟩) 2 2] 25)
  have h14 := ((h1.go b2).go b3).go b4
  have h24 := (h2.go b3).go b4
  have h34 := h3.go b4
  have hm : (2 : Nat) ≤ maxLen := by decide
  refine ⟨.inr ⟨w3.heap.size, 0, 3, rfl, by decide, by decide, lt_of_block h4, fun i hi => ?_⟩, b1.trans (Below.mono (b2.trans (Below.mono (b3.trans (Below.mono b4 b3.size)) b2.size)) b1.size)⟩
  have hi3 : i = 0 ∨ i = 1 ∨ i = 2 := by simp at hi; omega
  rcases hi3 with rfl | rfl | rfl
  · exact ⟨.slice (some ⟨w.heap.size, 0, none⟩) 2 2, (cellN14 h4 0).trans rfl, h14.il (c := 2) (by decide) hm⟩
  · exact ⟨.slice (some ⟨w1.heap.size, 0, none⟩) 2 2, (cellN14 h4 1).trans rfl, h24.il (c := 2) (by decide) hm⟩
  · exact ⟨.slice (some ⟨w2.heap.size, 0, none⟩) 2 2, (cellN14 h4 2).trans rfl, h34.il (c := 2) (by decide) hm⟩
theorem lit2 (w : World) : LL (((w.alloc (.cells #[.int .i64 0] 3)).alloc (.cells #[.int .i64 1] 3)).alloc (.cells #[.slice (some ⟨w.heap.size, 0, none⟩) 1 1, .slice (some ⟨w.heap.size + 1, 0, none⟩) 1 1] 25)) (.slice (some ⟨w.heap.size + 1 + 1, 0, none⟩) 2 2) [[0], [1]] ∧
    Below w.heap.size w (((w.alloc (.cells #[.int .i64 0] 3)).alloc (.cells #[.int .i64 1] 3)).alloc (.cells #[.slice (some ⟨w.heap.size, 0, none⟩) 1 1, .slice (some ⟨w.heap.size + 1, 0, none⟩) 1 1] 25)) := by
  have b1 := bgrow w (.cells #[.int .i64 0] 3)
  have h1 : IR (w.alloc (.cells #[.int .i64 0] 3)) w.heap.size [0] := ir_new w [0]
  have s1 : (w.alloc (.cells #[.int .i64 0] 3)).heap.size = w.heap.size + 1 := World.size_alloc ..
  generalize w.alloc (.cells #[.int .i64 0] 3) = w1 at *
  have b2 := bgrow w1 (.cells #[.int .i64 1] 3)
  have h2 : IR (w1.alloc (.cells #[.int .i64 1] 3)) w1.heap.size [1] := ir_new w1 [1]
  have s2 : (w1.alloc (.cells #[.int .i64 1] 3)).heap.size = w1.heap.size + 1 := World.size_alloc ..
  generalize w1.alloc (.cells #[.int .i64 1] 3) = w2 at *
  rw [← s1, ← s2]
  have b4 := bgrow w2 (.cells #[.slice (some ⟨w.heap.size, 0, none⟩) 1 1, .slice (some ⟨w1.heap.size, 0, none⟩) 1 1] 25)
  have h4 := heap_alloc_new w2 (.cells #[.slice (some ⟨w.heap.size, 0, none⟩) 1 1, .slice (some ⟨w1.heap.size, 0, none⟩) 1 1] 25)
  have h14 := (h1.go b2).go b4
  have h24 := h2.go b4
  have hm : (1 : Nat) ≤ maxLen := by decide
  refine ⟨.inr ⟨w2.heap.size, 0, 2, rfl, by decide, by decide, lt_of_block h4, fun i hi => ?_⟩, b1.trans (Below.mono (b2.trans (Below.mono b4 b2.size)) b1.size)⟩
  have hi3 : i = 0 ∨ i = 1 := by simp at hi; omega
  rcases hi3 with rfl | rfl
  · exact ⟨.slice (some ⟨w.heap.size, 0, none⟩) 1 1, (cellN14 h4 0).trans rfl, h14.il (c := 1) (by decide) hm⟩
  · exact ⟨.slice (some ⟨w1.heap.size, 0, none⟩) 1 1, (cellN14 h4 1).trans rfl, h24.il (c := 1) (by decide) hm⟩

theorem LL.one {w : World} {a : Option Addr} {c : Nat} (h : LL w (.slice a 1 c) [[]]) : ∃ b off ua uc, a = some ⟨b, off, none⟩ ∧ b < w.heap.size ∧ w.cell? ⟨b, off, none⟩ = some (.slice ua 0 uc) := by
  rcases h with ⟨-, h⟩ | ⟨b, off, cap, h1, h2, h3, h4, h5⟩
  · cases h
  · obtain ⟨u, hu, hl⟩ := h5 0 (by decide)
    obtain ⟨ua, uc, rfl, -⟩ := hl.ic
    injection h1 with e1
    exact ⟨b, off, ua, uc, e1, h4, hu⟩
/-- What the three calls answer. -/
theorem comp1_any (v : Value) (w : World) (h : PairsAt w v [(0, 1), (1, 0)]) (hT : Tab w) : Calls Tryd.prog 12 #[.agg #[.int .i64 2, v]] w fun e w' => ∃ a c, e = .returned (.tuple #[.slice a 3 c, .int .i64 0]) ∧ LL w' (.slice a 3 c) [[1, 2], [2, 1], [3, 3]] ∧ Below w.heap.size w w' :=
  (sComplete_any 2 v _ w h (by decide) hT).mono fun e w' ⟨hb, hr⟩ => by
    rcases hr with ⟨h0, -⟩ | ⟨-, ⟨v', ls, he, hc, -, hs⟩ | ⟨-, hm⟩⟩
    · exact absurd val1 h0
    · obtain rfl : ls = [[1, 2], [2, 1], [3, 3]] := hc.uniq cl1
      obtain ⟨a, c, rfl, -⟩ := hs.ll.form
      exact ⟨a, c, he, hs.ll, hb⟩
    · exact absurd (hm.not cl1) (by decide)
theorem naive1_any (v : Value) (w : World) (h : PairsAt w v [(0, 1), (1, 0)]) (hT : Tab w) : Calls Tryd.prog 14 #[.agg #[.int .i64 2, v]] w fun e w' => ∃ a c, e = .returned (.tuple #[.slice a 2 c, .int .i64 0]) ∧ LL w' (.slice a 2 c) [[0], [1]] ∧ Below w.heap.size w w' :=
  (sNaive_any 2 v _ w h (by decide) hT).mono fun e w' ⟨hb, hr⟩ => by
    rcases hr with ⟨h0, -⟩ | ⟨-, ⟨v', ls, he, hc, -, hs⟩ | ⟨-, hm⟩⟩
    · exact absurd val1 h0
    · obtain rfl : ls = [[0], [1]] := hc.uniq nl1
      obtain ⟨a, c, rfl, -⟩ := hs.ll.form
      exact ⟨a, c, he, hs.ll, hb⟩
    · exact absurd (hm.not nl1) (by decide)
theorem comp0_any (w : World) (hT : Tab w) : Calls Tryd.prog 12 #[.agg #[.int .i64 0, .slice none 0 0]] w fun e w' => ∃ a c, e = .returned (.tuple #[.slice a 1 c, .int .i64 0]) ∧ LL w' (.slice a 1 c) [[]] ∧ Below w.heap.size w w' :=
  (sComplete_any 0 _ [] w (.inl ⟨rfl, rfl⟩) (by decide) hT).mono fun e w' ⟨hb, hr⟩ => by
    rcases hr with ⟨h0, -⟩ | ⟨-, ⟨v', ls, he, hc, -, hs⟩ | ⟨-, hm⟩⟩
    · exact absurd val0 h0
    · obtain rfl : ls = [[]] := hc.uniq cl0
      obtain ⟨a, c, rfl, -⟩ := hs.ll.form
      exact ⟨a, c, he, hs.ll, hb⟩
    · exact absurd (hm.not cl0) (by decide)

set_option maxRecDepth 100000 in
set_option maxHeartbeats 8000000 in
theorem awake14_any (w : World) (hT : Tab w) : Calls Tryd.prog 17 #[] w fun e w' => e = .returned (.bool true) ∧ Below w.heap.size w w' := by
  have HT := hidIt hT
  clear hT
  go_enter Tryd.func17, Tryd.ntmps17
  go_wp2_with fail
  refine (sPairs_any 1 (by decide) _).mono ?_
  rintro e w1 ⟨v1, rfl, hp1, hb1⟩
  have HP1 := hidIt hp1.at_
  have HB1 := hidIt hb1
  clear hp1 hb1
  go_wp2_with fail
  refine (comp1_any v1 _ HP1.out (HT.out.go HB1.out)).mono ?_
  rintro e w2 ⟨a2, c2, rfl, hl2, hb2⟩
  have HL2 := hidIt hl2
  have HB2 := hidIt (HB1.out.trans (Below.mono hb2 HB1.out.size))
  clear hl2 hb2 HP1 HB1
  go_wp2_with fail
  refine (sPairs_any 1 (by decide) _).mono ?_
  rintro e w3 ⟨v3, rfl, hp3, hb3⟩
  have HP3 := hidIt hp3.at_
  have HL3 := hidIt (HL2.out.below hb3)
  have HB3 := hidIt (HB2.out.trans (Below.mono hb3 HB2.out.size))
  clear hp3 hb3 HB2 HL2
  go_wp2_with fail
  refine (naive1_any v3 _ HP3.out (HT.out.go HB3.out)).mono ?_
  rintro e w4 ⟨a4, c4, rfl, hl4, hb4⟩
  have HN4 := hidIt hl4
  have HL4 := hidIt (HL3.out.below hb4)
  have HB4 := hidIt (HB3.out.trans (Below.mono hb4 HB3.out.size))
  clear hl4 hb4 HB3 HL3 HP3
  go_wp2_with fail
  refine (comp0_any _ (HT.out.go HB4.out)).mono ?_
  rintro e w5 ⟨a5, c5, rfl, hl5, hb5⟩
  have HZ5 := hidIt hl5
  have HN5 := hidIt (HN4.out.below hb5)
  have HL5 := hidIt (HL4.out.below hb5)
  have HB5 := hidIt (HB4.out.trans (Below.mono hb5 HB4.out.size))
  clear hl5 hb5 HB4 HL4 HN4
  obtain ⟨hlit, hbl⟩ := lit3 w5
  have HLIT := hidIt hlit
  have HBL := hidIt hbl
  clear hlit hbl
  go_wp2_with fail
  refine (kLists_any _ _ _ _ _ (HL5.out.below HBL.out) HLIT.out (by decide) (by decide) (by decide) (by decide)).mono ?_
  rintro e w6 ⟨rfl, hb6⟩
  rw [show decide (([[1, 2], [2, 1], [3, 3]] : List (List Int)) = [[1, 2], [2, 1], [3, 3]]) = true by decide]
  have HB56 := HBL.out.trans (Below.mono hb6 HBL.out.size)
  have HZ6 := hidIt (HZ5.out.below HB56)
  have HN6 := hidIt (HN5.out.below HB56)
  have HB6 := hidIt (HB5.out.trans (Below.mono HB56 HB5.out.size))
  clear hb6 HB56 HZ5 HN5 HB5 HBL HLIT HL5
  obtain ⟨hlit, hbl⟩ := lit2 w6
  have HLIT := hidIt hlit
  have HBL := hidIt hbl
  clear hlit hbl
  go_wp2_with fail
  refine (kLists_any _ _ _ _ _ (HN6.out.below HBL.out) HLIT.out (by decide) (by decide) (by decide) (by decide)).mono ?_
  rintro e w7 ⟨rfl, hb7⟩
  rw [show decide (([[0], [1]] : List (List Int)) = [[0], [1]]) = true by decide]
  have HB67 := HBL.out.trans (Below.mono hb7 HBL.out.size)
  have HZ7 := hidIt (HZ6.out.below HB67)
  have HB7 := hidIt (HB6.out.trans (Below.mono HB67 HB6.out.size))
  obtain ⟨b8, o8, ua, uc, rfl, hb8, hc8⟩ := HZ7.out.one
  go_wp2_with fail
  go_ret
  exact ⟨rfl, HB7.out⟩
end Go.Proofs.YtfiaoibfejginaaDoor
