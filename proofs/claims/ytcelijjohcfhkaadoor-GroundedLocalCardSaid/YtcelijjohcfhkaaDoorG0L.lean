/- Reach, for every graph and number: the nodes that are reached, ascending. -/
import Derived.Test.YtcelijjohcfhkaaDoorG0K
namespace Go.Proofs.YtcelijjohcfhkaaDoor
set_option linter.unusedVariables false
set_option linter.unusedSimpArgs false
open Go Go.RowKit Go.Sort

/-- The nodes that i reaches. -/
inductive Rch (ps : List (Int × Int)) (i : Nat) : Nat → Prop
  | here : Rch ps i i
  | step {k j : Nat} : Rch ps i k → ((k : Int), (j : Int)) ∈ ps → Rch ps i j
open Classical in
noncomputable def rchB (ps : List (Int × Int)) (i k : Nat) : Bool := decide (Rch ps i k)
theorem rchB_iff {ps : List (Int × Int)} {i k : Nat} : rchB ps i k = true ↔ Rch ps i k := by unfold rchB; simp
noncomputable def reachN (N : Nat) (ps : List (Int × Int)) (i : Nat) : List Nat := (List.range N).filter (rchB ps i)
/-- What Reach returns. -/
noncomputable def reachL (m : Int) (ps : List (Int × Int)) (i : Int) : List Int := if ixB i m = true then ints (reachN m.toNat ps i.toNat) else []

theorem Rch.lt {N : Nat} {ps : List (Int × Int)} (hok : GOk (N : Int) ps) {i k : Nat} (hi : i < N) (h : Rch ps i k) : k < N := by
  cases h with
  | here => exact hi
  | step _ h2 => have := (hok.ix _ h2).2.2; simp only at this; omega

theorem one_bit {k : Nat} (h : k < 64) (j : Nat) : (oneB k).getLsbD j = decide (k = j) := by
  rw [BitVec.getLsbD_twoPow]
  simp [h]
theorem filter_more (p q : Nat → Bool) (k : Nat) (h1 : p k = false) (h2 : ∀ j, q j = (p j || decide (j = k))) : ∀ n, k < n → ((List.range n).filter q).length = ((List.range n).filter p).length + 1
  | 0, h => by omega
  | n + 1, h => by
    rw [List.range_succ, List.filter_append, List.filter_append, List.length_append, List.length_append]
    by_cases e : k = n
    · subst e
      have e1 : (List.range k).filter q = (List.range k).filter p := by
        apply List.filter_congr
        intro j hj
        have := List.mem_range.1 hj
        rw [h2]
        have hne : ¬ j = k := by omega
        simp [hne]
      have e2 : q k = true := by rw [h2]; simp
      rw [e1]
      simp [h1, e2]
    · rw [filter_more p q k h1 h2 n (by omega)]
      have : q n = p n := by rw [h2]; simp [Ne.symm e]
      simp only [List.filter_cons, List.filter_nil, this]
      omega
theorem members_more {S : BitVec 64} {k : Nat} (hk : k < 64) (h : S.getLsbD k = false) : (members (S ||| oneB k)).length = (members S).length + 1 :=
  filter_more S.getLsbD _ k h (fun j => by rw [BitVec.getLsbD_or, one_bit hk]; simp [eq_comm]) 64 hk

/-- The search: S has been visited, T is next. -/
structure Sea (N : Nat) (ps : List (Int × Int)) (i : Nat) (S T : BitVec 64) : Prop where
  sub : ∀ j, S.getLsbD j = true ∨ T.getLsbD j = true → Rch ps i j
  dis : ∀ j, S.getLsbD j = true → T.getLsbD j = false
  clo : ∀ a b : Nat, S.getLsbD a = true → ((a : Int), (b : Int)) ∈ ps → S.getLsbD b = true ∨ T.getLsbD b = true
  beg : S.getLsbD i = true ∨ T.getLsbD i = true
theorem Sea.start {N : Nat} {ps : List (Int × Int)} {i : Nat} (hi : i < 64) : Sea N ps i 0#64 (oneB i) :=
  ⟨fun j h => by
    rw [one_bit hi] at h
    rcases h with h | h
    · simp at h
    · have : i = j := by simpa using h
      subst this
      exact .here, fun j h => by simp at h, fun a b h => by simp at h, .inr (by rw [one_bit hi]; simp)⟩
theorem not_bit (X : BitVec 64) (j : Nat) : (~~~X).getLsbD j = (decide (j < 64) && !X.getLsbD j) := BitVec.getLsbD_not
theorem Sea.go {N : Nat} {ps : List (Int × Int)} {i : Nat} {S T : BitVec 64} (h : Sea N ps i S T) (hok : GOk (N : Int) ps) {k : Nat} (hk : k < 64) (hT : T.getLsbD k = true) :
    Sea N ps i (S ||| oneB k) ((T ||| attB ps k) &&& ~~~(S ||| oneB k)) := by
  have h40 : ∀ p ∈ ps, 0 ≤ p.2 ∧ p.2 < 64 := fun p hp => ⟨(hok.ix p hp).2.1, by have := (hok.ix p hp).2.2; have := hok.n40; omega⟩
  have hS : ∀ j, (S ||| oneB k).getLsbD j = (S.getLsbD j || decide (k = j)) := fun j => by rw [BitVec.getLsbD_or, one_bit hk]
  have hN : ∀ j, ((T ||| attB ps k) &&& ~~~(S ||| oneB k)).getLsbD j = ((T.getLsbD j || decide (((k : Int), (j : Int)) ∈ ps)) && (decide (j < 64) && !(S.getLsbD j || decide (k = j)))) := fun j => by
    rw [BitVec.getLsbD_and, not_bit, hS, BitVec.getLsbD_or, attB_bit ps k j h40]
  have hlt : ∀ a b : Nat, ((a : Int), (b : Int)) ∈ ps → b < 64 := fun a b hm => by have := (h40 _ hm).2; simp only at this; omega
  have hTlt : ∀ j, T.getLsbD j = true → j < 64 := fun j hj => BitVec.lt_of_getLsbD hj
  refine ⟨fun j hj => ?_, fun j hj => ?_, fun a b ha hm => ?_, ?_⟩
  · rw [hS, hN] at hj
    rcases hj with hj | hj
    · rw [Bool.or_eq_true] at hj
      rcases hj with hj | hj
      · exact h.sub j (.inl hj)
      · have : k = j := by simpa using hj
        subst this
        exact h.sub k (.inr hT)
    · rw [Bool.and_eq_true, Bool.or_eq_true] at hj
      rcases hj.1 with h1 | h1
      · exact h.sub j (.inr h1)
      · exact .step (h.sub k (.inr hT)) (of_decide_eq_true h1)
  · rw [hS] at hj
    rw [hN, hj]
    simp
  · rw [hS] at ha
    rw [hS, hN]
    by_cases hb : (S.getLsbD b || decide (k = b)) = true
    · exact .inl hb
    · right
      rw [Bool.not_eq_true] at hb
      rw [hb]
      have hb64 := hlt a b hm
      simp only [hb64, decide_true, Bool.not_false, Bool.and_true, Bool.or_eq_true, decide_eq_true_eq]
      rw [Bool.or_eq_true] at ha
      rcases ha with ha | ha
      · rcases h.clo a b ha hm with h1 | h1
        · rw [h1] at hb; simp at hb
        · exact .inl h1
      · have : k = a := by simpa using ha
        subst this
        exact .inr hm
  · rw [hS, hN]
    by_cases hb : (S.getLsbD i || decide (k = i)) = true
    · exact .inl hb
    · right
      rw [Bool.not_eq_true] at hb
      rw [hb]
      rcases h.beg with h1 | h1
      · rw [h1] at hb; simp at hb
      · simp [h1, hTlt i h1]
theorem Sea.fin {N : Nat} {ps : List (Int × Int)} {i : Nat} {S : BitVec 64} (h : Sea N ps i S 0#64) (hok : GOk (N : Int) ps) (hi : i < N) : members S = reachN N ps i := by
  have hS : ∀ j, S.getLsbD j = true ↔ Rch ps i j := fun j => by
    constructor
    · exact fun hj => h.sub j (.inl hj)
    · intro hr
      induction hr with
      | here => simpa using h.beg
      | step _ hm ih => simpa using h.clo _ _ ih hm
  have h40 := hok.n40
  have gen : ∀ d, (List.range (N + d)).filter S.getLsbD = reachN N ps i := by
    intro d
    induction d with
    | zero =>
      unfold reachN
      apply List.filter_congr
      intro j _
      rw [Bool.eq_iff_iff, hS, rchB_iff]
    | succ d ih =>
      rw [← Nat.add_assoc, List.range_succ, List.filter_append, ih]
      have : S.getLsbD (N + d) = false := by
        rw [Bool.eq_false_iff]
        intro hj
        have := Rch.lt hok hi ((hS _).1 hj)
        omega
      simp [this]
  have := gen (64 - N)
  rw [show N + (64 - N) = 64 by omega] at this
  exact this

set_option maxRecDepth 100000 in
set_option maxHeartbeats 2000000 in
theorem gReach_any (n : Int) (v : Value) (xs : List (Int × Int)) (i : Int) (w : World) (h : PairsAt w v xs) (hl : xs.length ≤ 1000) (hT : Tab w) :
    Calls Tryd.prog 19 #[.agg #[.int .i64 n, v], .int .i64 i] w fun e w' => ∃ v', e = .returned v' ∧ IL w' v' (reachL (vN n xs) (vL n xs) i) ∧ Below w.heap.size w w' := by
  have HTAB := hidIt hT
  have hB := bgrow w (.cells #[.int .i64 n, v] 24)
  have h1 := h.below hB
  have HV := hidIt (h.valid n)
  obtain ⟨a, c, rfl, -⟩ := h.form
  have HX := hidIt (heap_alloc_new w (.cells #[.int .i64 n, .slice a xs.length c] 24))
  have HB := hidIt hB
  have H1 := hidIt h1
  have HL := hidIt hl
  have HOK := hidIt (v_ok n xs)
  clear h h1 hB hl hT
  go_enter Tryd.func19, Tryd.ntmps19
  go_upto_region 1 with (fail)
  generalize (w.alloc (.cells #[.int .i64 n, .slice a xs.length c] 24)) = w1 at *
  obtain ⟨x0, x1⟩ := And.intro (cell_two0 HX.out) (cell_two1 HX.out)
  have lx := lt_of_block HX.out
  go_wp2_with fail
  refine (gvalid_any n _ xs _ H1.out (by have := HL.out; omega)).mono ?_
  rintro e w2 ⟨rfl, hb⟩
  have HX2 := hidIt (blk_kept2 HX.out hb)
  have HLN : Hid ((vL n xs).length ≤ 1000) := Nat.le_trans (vL_len n xs) HL.out
  have HB2 := hidIt (HB.out.trans (Below.mono hb HB.out.size))
  clear hb x0 x1 lx HX H1 HL HB
  generalize hps : vL n xs = ps at *
  have HPS := hidIt hps
  clear hps
  generalize hm : vN n xs = m at *
  have HMM := hidIt hm
  clear hm
  generalize vV n xs _ = v' at *
  obtain ⟨a', c', rfl, -⟩ := HV.out.form
  have HB3 := hidIt (below_set5 (i := 1) (u := .slice a' ps.length c') (below_set5 (i := 0) (u := .int .i64 m) HB2.out (Nat.le_refl _)) (Nat.le_refl _))
  have HX3 := hidIt (box_set2 (x := .int .i64 m) (y := .slice a' ps.length c') HX2.out)
  have HP3 := hidIt (HV.out.below HB3.out)
  obtain ⟨x0, x1⟩ := And.intro (cell_two0 HX2.out) (cell_two1 HX2.out)
  have lx := lt_of_block HX2.out
  have f0 := free_any HX2.out 0
  have f1 := free_any HX2.out 1
  go_upto_region 2 with (fail)
  generalize ((w2.setCell ⟨w.heap.size, 0, none⟩ (.int .i64 m)).setCell ⟨w.heap.size, 1, none⟩ (.slice a' ps.length c')) = w3 at *
  clear x0 x1 lx f0 f1 HX2 HB2
  obtain ⟨x0, x1⟩ := And.intro (cell_two0 HX3.out) (cell_two1 HX3.out)
  have lx := lt_of_block HX3.out
  have HRL : Hid (reachL m ps i = if ixB i m = true then ints (reachN m.toNat ps i.toNat) else []) := (rfl : _ = _)
  cases hix : ixB i m
  · rw [hix] at HRL
    have HIX := hidIt hix
    clear hix
    go_wp2_with fail
    refine (gisNode_any m i _ ⟨_, _, _, rfl⟩ _).mono ?_
    rw [HIX.out]
    rintro e w4 ⟨rfl, hb⟩
    have HB4 := hidIt (HB3.out.trans (Below.mono hb HB3.out.size))
    clear hb
    go_wp2_with fail
    go_ret
    rw [HPS.out, HMM.out, HRL.out]
    exact ⟨_, rfl, IL.nil _, HB4.out⟩
  obtain ⟨hi0, hi1⟩ := ixB_true hix
  rw [hix, if_pos rfl] at HRL
  obtain ⟨N, rfl⟩ : ∃ N : Nat, m = (N : Int) := ⟨m.toNat, by have := HOK.out.n0; omega⟩
  obtain ⟨I, rfl⟩ : ∃ I : Nat, i = (I : Int) := ⟨i.toNat, by omega⟩
  have hN : N ≤ 40 := by have := HOK.out.n40; omega
  have HIX := hidIt hix
  clear hix
  rw [Int.toNat_natCast, Int.toNat_natCast] at HRL
  go_wp2_with fail
  refine (gisNode_any (N : Int) (I : Int) _ ⟨_, _, _, rfl⟩ _).mono ?_
  rw [HIX.out]
  rintro e w4 ⟨rfl, hb⟩
  have HB4 := hidIt (HB3.out.trans (Below.mono hb HB3.out.size))
  have HX4 := hidIt (blk_kept2 HX3.out hb)
  have HP4 := hidIt (HP3.out.below hb)
  clear hb x0 x1 lx HX3 HP3 HB3
  obtain ⟨x0, x1⟩ := And.intro (cell_two0 HX4.out) (cell_two1 HX4.out)
  have lx := lt_of_block HX4.out
  go_wp2_with fail
  refine (attackedSets_any N _ ps _ HP4.out HOK.out (by have := HLN.out; omega)).mono ?_
  rintro e w5 ⟨b, rfl, hbb, hs, hb⟩
  have HS5 := hidIt hs
  have HB5 := hidIt (HB4.out.trans (Below.mono hb HB4.out.size))
  have HT5 := hidIt (HTAB.out.go HB5.out)
  have hI64 : I < 64 := by omega
  have hw1 := wrap_one hI64
  clear hs hb hbb x0 x1 lx HX4 HP4 HB4
  go_wp2_with fail
  go_quiet (fail)
  have HB6 : Hid (Below w.heap.size w (w5.drewN nq)) := ⟨HB5.out.os, HB5.out.tape, HB5.out.output, HB5.out.size, HB5.out.block⟩
  have HT6 : Hid (Tab (w5.drewN nq)) := HT5.out
  have HS6 : Hid (SetsAt (w5.drewN nq) b N (attB ps)) := HS5.out
  clear HB5 HT5 HS5
  generalize w5.drewN nq = w6 at *
  go_wp2_with fail
  go_loopw [6, 7, 8] (fun v6 v7 _ wr => ∃ (S T : BitVec 64), v6 = bv S ∧ v7 = bv T ∧ wr = w6 ∧ Hid (Sea N ps I S T)) (fun v6 _ _ _ => 64 - (members (BitVec.ofInt 64 (intOf v6))).length)
  case atStart => exact ⟨0#64, oneB I, (by first | rfl | simp), (by first | rfl | rw [hw1] | exact congrArg _ hw1), (by first | rfl | trivial), Sea.start hI64⟩
  case round =>
    obtain ⟨S, T, rfl, rfl, rfl, HJ⟩ := hrel
    by_cases hz : T = 0#64
    · subst hz
      have HE : Hid (members S = reachN N ps I) := HJ.out.fin HOK.out (by omega)
      go_wp2_with fail
      refine (elements_any S _ HT6.out).mono ?_
      rintro e w7 ⟨ve, rfl, ho, hb⟩
      have HIL := hidIt ho.il
      have HBF := hidIt (HB6.out.trans (Below.mono hb HB6.out.size))
      clear ho hb
      go_wp2_with fail
      go_ret
      rw [HPS.out, HMM.out, HRL.out, ← HE.out]
      exact ⟨_, rfl, HIL.out, HBF.out⟩
    · obtain ⟨hk1, hk2, -, -⟩ := low_facts hz
      have hne : ((T.toNat : Int) != 0) = true := by have := bv_ne hz; simp; omega
      have hkN : ctzB T < N := Rch.lt HOK.out (by omega) (HJ.out.sub _ (.inr hk2))
      have HSK : Hid (S.getLsbD (ctzB T) = false) := by
        show _ = _
        rw [Bool.eq_false_iff]
        intro h
        have := HJ.out.dis _ h
        rw [hk2] at this
        cases this
      have HJ2 := hidIt (HJ.out.go HOK.out hk1 hk2)
      have HOR := hidIt (or_one S hk1)
      have HO2 := hidIt (bits_or_bv T (attB ps (ctzB T)))
      have HO3 := hidIt (bits_andNot_bv (T ||| attB ps (ctzB T)) (S ||| oneB (ctzB T)))
      have HMO := hidIt (members_more hk1 HSK.out)
      have HML := hidIt (members_len (S ||| oneB (ctzB T)))
      have hc := HS6.out.cell hkN
      have lb := lt_of_block HS6.out
      clear hz hk2
      go_wp2_with fail
      refine (tz_any T _ HT6.out).mono ?_
      rintro e w7 ⟨rfl, rfl⟩
      generalize ctzB T = k at *
      have hkI0 : (0 : Int) ≤ (k : Int) := by omega
      have hkI : (k : Int) < (N : Int) := by omega
      go_wp2_with fail
      rw [HOR.out, HO2.out, HO3.out]
      go_roundw
      case rel => exact ⟨S ||| oneB k, (T ||| attB ps k) &&& ~~~(S ||| oneB k), (by first | rfl | trivial), (by first | rfl | trivial), (by first | rfl | trivial), HJ2.out⟩
      case measure =>
        show 64 - (members (BitVec.ofInt 64 ((S ||| oneB k).toNat : Int))).length < 64 - (members (BitVec.ofInt 64 (S.toNat : Int))).length
        rw [ofInt_bv, ofInt_bv]
        have := HMO.out
        have := HML.out
        omega
end Go.Proofs.YtcelijjohcfhkaaDoor
