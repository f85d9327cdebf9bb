/- The reference's Admissible, IsComplete, Range, IsStable. -/
import Derived.Test.YtihmdnbeonefcaaDoorN1J
import Derived.Test.YtihmdnbeonefcaaDoorRelS
namespace Go.Proofs.YtihmdnbeonefcaaDoor
set_option linter.unusedVariables false
set_option linter.unusedSimpArgs false
open Go Go.RowKit Go.Sort

def isIq13 (m : Nat) (xs : List Int) : Value → World → Prop := fun v w => ∃ (a : Option Addr) (c : Nat), v = .slice a m c ∧ IL w (.slice a m c) xs
theorem isIq13_up (m : Nat) (xs : List Int) : GoesUp (isIq13 m xs) := fun _ _ _ hg ⟨a, c, h1, h2⟩ => ⟨a, c, h1, h2.below hg⟩
theorem isIq13_use {m : Nat} {xs : List Int} {a : Option Addr} {c : Nat} {w : World} (h : isIq13 m xs (.slice a m c) w) : IL w (.slice a m c) xs := by
  obtain ⟨a', c', h1, h2⟩ := h
  rw [h1]
  exact h2
theorem adm_cf {N : Nat} {ps : List (Int × Int)} {X : Nat → Bool} (h : cfX ps X = false) : admX N ps X = false := by unfold admX; rw [h]; rfl
theorem stepL_of {N : Nat} {ps : List (Int × Int)} {x : List Int} (h : setB N x = true) : stepL N ps x = setL N (dfX ps (memB x)) := by unfold stepL; rw [if_pos h]
theorem stepL_len (N : Nat) (ps : List (Int × Int)) (x : List Int) : (stepL N ps x).length ≤ N := by
  unfold stepL
  split
  · exact setL_len N _
  · exact Nat.zero_le _
theorem rangeL_len (N : Nat) (ps : List (Int × Int)) (x : List Int) : (rangeL N ps x).length ≤ N := by
  unfold rangeL
  split
  · exact setL_len N _
  · exact Nat.zero_le _
theorem subL_step {N : Nat} {ps : List (Int × Int)} {x : List Int} (h : setB N x = true) : subL x (stepL N ps x) = subX N (memB x) (dfX ps (memB x)) := by
  rw [stepL_of h]
  conv => lhs; rw [setB_eq h]
  rw [subL_set]
  have e : ∀ i, i < N → memB (setL N (memB x)) i = memB x i := fun i hi => by rw [memB_setL, decide_eq_true hi, Bool.true_and]
  rw [← setB_eq h]
theorem subL_back {N : Nat} {ps : List (Int × Int)} {x : List Int} (h : setB N x = true) : subL (stepL N ps x) x = subX N (dfX ps (memB x)) (memB x) := by
  rw [stepL_of h]
  conv => lhs; arg 2; rw [setB_eq h]
  rw [subL_set]
theorem sizeX_all {N : Nat} {X : Nat → Bool} : (sizeX N X = N) ↔ ∀ i, i < N → X i = true := by
  have e : sizeX N (fun _ => true) = N := by unfold sizeX; rw [List.filter_eq_self.2 (fun _ _ => rfl), List.length_range]
  constructor
  · intro h i hi
    exact sizeX_eq (N := N) (X := X) (Y := fun _ => true) (fun _ _ _ => rfl) (by rw [e, h]; exact Nat.le_refl _) i hi
  · intro h
    have h1 := sizeX_mono (N := N) (X := fun _ => true) (Y := X) (fun i hi _ => h i hi)
    have h2 := sizeX_le N X
    omega
theorem range_all {N : Nat} {ps : List (Int × Int)} {x : List Int} (h : setB N x = true) : decide ((rangeL N ps x).length = N) = subX N (fun _ => true) (orX (memB x) (hitX ps (memB x))) := by
  unfold rangeL
  rw [if_pos h, setL_size, Bool.eq_iff_iff, decide_eq_true_eq, sizeX_all, subX_iff]
  exact ⟨fun h i hi _ => h i hi, fun h i hi => h i hi rfl⟩

set_option maxRecDepth 100000 in
set_option maxHeartbeats 4000000 in
theorem raAdmissible_any (N : Nat) (v v2 : Value) (ps : List (Int × Int)) (x : List Int) (w : World) (h : PairsAt w v ps) (hok : GOk (N : Int) ps) (hpl : ps.length ≤ 1000) (hs : IL w v2 x) (hsl : x.length ≤ 100000) :
    Calls Tryd.prog 19 #[.agg #[.int .i64 (N : Int), v], v2] w fun e w' => e = .returned (.bool (setB N x && admX N ps (memB x))) ∧ Below w.heap.size w w' := by
  have hB := bgrow w (.cells #[.int .i64 (N : Int), v] 27)
  have H1 := hidIt (h.below hB)
  have H2 := hidIt (hs.below hB)
  obtain ⟨a, c, rfl, -⟩ := h.form
  obtain ⟨a2, c2, rfl, -⟩ := (hs.below hB).form
  have HX := hidIt (heap_alloc_new w (.cells #[.int .i64 (N : Int), .slice a ps.length c] 27))
  have HB := hidIt hB
  have HPL := hidIt hpl
  have HSL := hidIt hsl
  have HOK := hidIt hok
  have hN : N ≤ 40 := by have := hok.n40; omega
  obtain ⟨R, hR⟩ : ∃ R, R = (setB N x && admX N ps (memB x)) := ⟨_, rfl⟩
  have HM := hidIt hR
  rw [← hR]
  clear hR
  clear h hs hB hok hpl hsl
  go_enter Tryd.func19, Tryd.ntmps19
  go_upto_region 1 with (fail)
  generalize (w.alloc (.cells #[.int .i64 (N : Int), .slice a ps.length c] 27)) = w1 at *
  obtain ⟨P, hP⟩ : ∃ P, P = w.heap.size := ⟨_, rfl⟩
  have HP := hidIt hP
  rw [← hP] at HX ⊢
  clear hP
  obtain ⟨x0, x1⟩ := And.intro (cell_two0 HX.out) (cell_two1 HX.out)
  have lx := lt_of_block HX.out
  have HC := hidIt (raConflictFree_any N _ _ ps x w1 H1.out HOK.out (by have := HPL.out; omega) H2.out HSL.out)
  cases hc : setB N x && cfX ps (memB x)
  · rw [hc] at HC
    have HE : Hid (R = false) := by
      show _ = _
      rw [HM.out]
      unfold admX; cases hs : setB N x
      · rfl
      · rw [hs, Bool.true_and] at hc; rw [hc]; rfl
    clear hc
    go_wp2_with fail
    refine HC.out.mono ?_
    rintro e w2 ⟨rfl, hb2⟩
    have HB2 := hidIt (HB.out.trans (Below.mono hb2 HB.out.size))
    clear hb2
    go_wp2_with fail
    go_ret
    exact ⟨ret_bool HE.out.symm, HB2.out⟩
  have hset : setB N x = true := by
    rw [Bool.and_eq_true] at hc
    exact hc.1
  have HKY : Hid (subL x (stepL N ps x) = R) := by
    show _ = _
    rw [HM.out, subL_step hset]
    rw [hset]; unfold admX; rw [Bool.and_eq_true] at hc; rw [hc.2]; rfl
  have HSTL := hidIt (stepL_len N ps x)
  have HSB := hidIt hset
  rw [hc] at HC
  clear hc hset
  go_wp2_with fail
  refine HC.out.mono ?_
  rintro e w2 ⟨rfl, hb2⟩
  have HB2 := hidIt (HB.out.trans (Below.mono hb2 HB.out.size))
  have HX2 := hidIt (blk_kept2 HX.out hb2)
  have H12 := hidIt (H1.out.below hb2)
  have H22 := hidIt (H2.out.below hb2)
  clear hb2 x0 x1 lx HX H1 H2 HB
  obtain ⟨x0, x1⟩ := And.intro (cell_two0 HX2.out) (cell_two1 HX2.out)
  have lx := lt_of_block HX2.out
  clear HC
  go_wp2_with fail
  refine (raStep_any N _ _ ps x w2 H12.out HOK.out HPL.out H22.out HSL.out).mono ?_
  rintro e w3 ⟨sa, sc, rfl, ho3, hb3⟩
  have HS3 := hidIt ho3.il
  have HB3 := hidIt (HB2.out.trans (Below.mono hb3 HB2.out.size))
  have H23 := hidIt (H22.out.below hb3)
  clear ho3 hb3
  go_wp2_with fail
  refine (raInside_any _ _ x (stepL N ps x) w3 H23.out HS3.out HSL.out (by have := HSTL.out; omega)).mono ?_
  rw [HKY.out]
  rintro e w4 ⟨rfl, rfl⟩
  go_wp2_with fail
  go_ret
  exact ⟨rfl, HB3.out⟩

set_option maxRecDepth 100000 in
set_option maxHeartbeats 4000000 in
theorem raIsComplete_any (N : Nat) (v v2 : Value) (ps : List (Int × Int)) (x : List Int) (w : World) (h : PairsAt w v ps) (hok : GOk (N : Int) ps) (hpl : ps.length ≤ 1000) (hs : IL w v2 x) (hsl : x.length ≤ 100000) :
    Calls Tryd.prog 21 #[.agg #[.int .i64 (N : Int), v], v2] w fun e w' => e = .returned (.bool (setB N x && compX N ps (memB x))) ∧ Below w.heap.size w w' := by
  have hB := bgrow w (.cells #[.int .i64 (N : Int), v] 27)
  have H1 := hidIt (h.below hB)
  have H2 := hidIt (hs.below hB)
  obtain ⟨a, c, rfl, -⟩ := h.form
  obtain ⟨a2, c2, rfl, -⟩ := (hs.below hB).form
  have HX := hidIt (heap_alloc_new w (.cells #[.int .i64 (N : Int), .slice a ps.length c] 27))
  have HB := hidIt hB
  have HPL := hidIt hpl
  have HSL := hidIt hsl
  have HOK := hidIt hok
  have hN : N ≤ 40 := by have := hok.n40; omega
  obtain ⟨R, hR⟩ : ∃ R, R = (setB N x && compX N ps (memB x)) := ⟨_, rfl⟩
  have HM := hidIt hR
  rw [← hR]
  clear hR
  clear h hs hB hok hpl hsl
  go_enter Tryd.func21, Tryd.ntmps21
  go_upto_region 1 with (fail)
  generalize (w.alloc (.cells #[.int .i64 (N : Int), .slice a ps.length c] 27)) = w1 at *
  obtain ⟨P, hP⟩ : ∃ P, P = w.heap.size := ⟨_, rfl⟩
  have HP := hidIt hP
  rw [← hP] at HX ⊢
  clear hP
  obtain ⟨x0, x1⟩ := And.intro (cell_two0 HX.out) (cell_two1 HX.out)
  have lx := lt_of_block HX.out
  have HC := hidIt (raAdmissible_any N _ _ ps x w1 H1.out HOK.out (by have := HPL.out; omega) H2.out HSL.out)
  cases hc : setB N x && admX N ps (memB x)
  · rw [hc] at HC
    have HE : Hid (R = false) := by
      show _ = _
      rw [HM.out]
      unfold compX; cases hs : setB N x
      · rfl
      · rw [hs, Bool.true_and] at hc; unfold admX at hc; cases hcf : cfX ps (memB x)
        · rfl
        · rw [hcf, Bool.true_and] at hc; rw [hc]; rfl
    clear hc
    go_wp2_with fail
    refine HC.out.mono ?_
    rintro e w2 ⟨rfl, hb2⟩
    have HB2 := hidIt (HB.out.trans (Below.mono hb2 HB.out.size))
    clear hb2
    go_wp2_with fail
    go_ret
    exact ⟨ret_bool HE.out.symm, HB2.out⟩
  have hset : setB N x = true := by
    rw [Bool.and_eq_true] at hc
    exact hc.1
  have HKY : Hid (subL (stepL N ps x) x = R) := by
    show _ = _
    rw [HM.out, subL_back hset]
    rw [hset]; unfold compX; rw [Bool.and_eq_true] at hc; obtain ⟨-, hc⟩ := hc; unfold admX at hc; rw [Bool.and_eq_true] at hc; rw [hc.1, hc.2]; rfl
  have HSTL := hidIt (stepL_len N ps x)
  have HSB := hidIt hset
  rw [hc] at HC
  clear hc hset
  go_wp2_with fail
  refine HC.out.mono ?_
  rintro e w2 ⟨rfl, hb2⟩
  have HB2 := hidIt (HB.out.trans (Below.mono hb2 HB.out.size))
  have HX2 := hidIt (blk_kept2 HX.out hb2)
  have H12 := hidIt (H1.out.below hb2)
  have H22 := hidIt (H2.out.below hb2)
  clear hb2 x0 x1 lx HX H1 H2 HB
  obtain ⟨x0, x1⟩ := And.intro (cell_two0 HX2.out) (cell_two1 HX2.out)
  have lx := lt_of_block HX2.out
  clear HC
  go_wp2_with fail
  refine (raStep_any N _ _ ps x w2 H12.out HOK.out HPL.out H22.out HSL.out).mono ?_
  rintro e w3 ⟨sa, sc, rfl, ho3, hb3⟩
  have HS3 := hidIt ho3.il
  have HB3 := hidIt (HB2.out.trans (Below.mono hb3 HB2.out.size))
  have H23 := hidIt (H22.out.below hb3)
  clear ho3 hb3
  go_wp2_with fail
  refine (raInside_any _ _ (stepL N ps x) x w3 HS3.out H23.out (by have := HSTL.out; omega) HSL.out).mono ?_
  rw [HKY.out]
  rintro e w4 ⟨rfl, rfl⟩
  go_wp2_with fail
  go_ret
  exact ⟨rfl, HB3.out⟩

set_option maxRecDepth 100000 in
set_option maxHeartbeats 4000000 in
theorem raRange_any (N : Nat) (v v2 : Value) (ps : List (Int × Int)) (x : List Int) (w : World) (h : PairsAt w v ps) (hok : GOk (N : Int) ps) (hpl : ps.length ≤ 1000) (hs : IL w v2 x) (hsl : x.length ≤ 100000) :
    Calls Tryd.prog 28 #[.agg #[.int .i64 (N : Int), v], v2] w fun e w' => ∃ (a : Option Addr) (c : Nat), e = .returned (.slice a (rangeL N ps x).length c) ∧ OwnI w' w.heap.size (.slice a (rangeL N ps x).length c) (rangeL N ps x) ∧ Below w.heap.size w w' := by
  have hB := bgrow w (.cells #[.int .i64 (N : Int), v] 27)
  have H1 := hidIt (h.below hB)
  have H2 := hidIt (hs.below hB)
  obtain ⟨a, c, rfl, -⟩ := h.form
  obtain ⟨a2, c2, rfl, -⟩ := (hs.below hB).form
  have HX := hidIt (heap_alloc_new w (.cells #[.int .i64 (N : Int), .slice a ps.length c] 27))
  have HB := hidIt hB
  have HPL := hidIt hpl
  have HSL := hidIt hsl
  have HOK := hidIt hok
  have hN : N ≤ 40 := by have := hok.n40; omega
  have HRL : Hid (rangeL N ps x = if setB N x = true then setL N (orX (memB x) (hitX ps (memB x))) else []) := (rfl : _ = _)
  generalize rangeL N ps x = R at *
  clear h hs hB hok hpl hsl
  go_enter Tryd.func28, Tryd.ntmps28
  go_upto_region 1 with (fail)
  generalize (w.alloc (.cells #[.int .i64 (N : Int), .slice a ps.length c] 27)) = w1 at *
  obtain ⟨P, hP⟩ : ∃ P, P = w.heap.size := ⟨_, rfl⟩
  have HP := hidIt hP
  rw [← hP] at HX ⊢
  clear hP
  obtain ⟨x0, x1⟩ := And.intro (cell_two0 HX.out) (cell_two1 HX.out)
  have lx := lt_of_block HX.out
  have HC := hidIt (raValid_any N _ _ ps x w1 H1.out H2.out HSL.out)
  cases hset : setB N x
  · rw [hset] at HC HRL
    have hR : R = [] := by have := HRL.out; rwa [if_neg (by decide)] at this
    subst hR
    clear hset
    go_wp2_with fail
    refine HC.out.mono ?_
    rintro e w2 ⟨rfl, hb2⟩
    have HB2 := hidIt (HB.out.trans (Below.mono hb2 HB.out.size))
    clear hb2
    go_wp2_with fail
    go_ret
    exact ⟨none, 0, rfl, OwnI.nil _ _, HB2.out⟩
  rw [hset] at HC HRL
  have HF : Hid (R = ints (setTo (orX (memB x) (hitX ps (memB x))) N)) := by have := HRL.out; rw [if_pos rfl] at this; exact this
  clear hset HRL
  go_wp2_with fail
  refine HC.out.mono ?_
  rintro e w2 ⟨rfl, hb2⟩
  have HB2 := hidIt (HB.out.trans (Below.mono hb2 HB.out.size))
  have HX2 := hidIt (blk_kept2 HX.out hb2)
  have H12 := hidIt (H1.out.below hb2)
  have H22 := hidIt (H2.out.below hb2)
  clear hb2 x0 x1 lx HX H1 H2 HB
  obtain ⟨x0, x1⟩ := And.intro (cell_two0 HX2.out) (cell_two1 HX2.out)
  have lx := lt_of_block HX2.out
  clear HC x0 x1 lx
  go_wp2_with fail
  go_loopw [5, 6] (fun v5 i wr => ∃ (k l : Nat) (b : Option Addr) (d : Nat), k ≤ N ∧ v5 = .slice b l d ∧ i = .int .i64 k ∧ Hid (l = (setTo (orX (memB x) (hitX ps (memB x))) k).length) ∧ Hid (OwnI wr w2.heap.size (.slice b l d) (ints (setTo (orX (memB x) (hitX ps (memB x))) k))) ∧ Hid (Below w2.heap.size w2 wr)) (fun _ i _ => N - (intOf i).toNat)
  case atStart => exact ⟨0, 0, none, 0, Nat.zero_le _, (by first | rfl | trivial), (by first | rfl | trivial), (rfl : 0 = (setTo (orX (memB x) (hitX ps (memB x))) 0).length), OwnI.nil _ _, Below.refl _ _⟩
  case round =>
    obtain ⟨k, l, b, d, hk, rfl, rfl, HL, HO, HBr⟩ := hrel
    have hkI0 : (0 : Int) ≤ (k : Int) := by omega
    have HXr := hidIt (blk_kept2 HX2.out HBr.out)
    obtain ⟨x0, x1⟩ := And.intro (cell_two0 HXr.out) (cell_two1 HXr.out)
    have lx := lt_of_block HXr.out
    by_cases hlt : k < N
    · have hkI : (k : Int) < (N : Int) := by omega
      have HST := hidIt (setTo_step (orX (memB x) (hitX ps (memB x))) k)
      have hl5 : l ≤ k := by rw [HL.out]; exact setTo_len _ _
      have HC := hidIt (rlIn_any _ x (k : Int) wr (H22.out.below HBr.out) (by have := HSL.out; omega))
      have HD := hidIt (raHit_any N k _ _ ps x wr (H12.out.below HBr.out) HOK.out (by have := HPL.out; omega) (H22.out.below HBr.out) HSL.out)
      have HOX : Hid (orX (memB x) (hitX ps (memB x)) k = (decide ((k : Int) ∈ x) || hitX ps (memB x) k)) := (rfl : _ = _)
      generalize orX (memB x) (hitX ps (memB x)) = F at *
      generalize hitX ps (memB x) k = hk2 at *
      generalize decide ((k : Int) ∈ x) = mk at *
      cases mk
      · rw [Bool.false_or] at HOX
        cases hk2
        · rw [HOX.out, if_neg (by decide), List.append_nil] at HST
          go_wp2_with fail
          refine HC.out.mono ?_
          rintro e w5 ⟨rfl, rfl⟩
          go_wp2_with fail
          refine HD.out.mono ?_
          rintro e w5 ⟨rfl, hb5⟩
          have HO5 := hidIt (HO.out.go hb5)
          have HB5 := hidIt (HBr.out.trans (Below.mono hb5 HBr.out.size))
          clear hb5 HO HBr
          go_wp2_with fail
          go_roundw
          case rel => exact ⟨k + 1, l, b, d, by omega, (by first | rfl | trivial), by go_num, (by rw [HST.out]; exact HL.out), (by rw [HST.out]; exact HO5.out), HB5.out⟩
          case measure => simp [intOf]; omega
        · rw [HOX.out, if_pos rfl] at HST
          go_wp2_with fail
          refine HC.out.mono ?_
          rintro e w5 ⟨rfl, rfl⟩
          go_wp2_with fail
          refine HD.out.mono ?_
          rintro e w5 ⟨rfl, hb5⟩
          have HO5 := hidIt (HO.out.go hb5)
          have HB5 := hidIt (HBr.out.trans (Below.mono hb5 HBr.out.size))
          clear hb5 HO HBr x0 x1 lx HXr
          have HTL : Hid ((ints (setTo F k)).length = l) := by show _ = _; rw [ints_len]; exact HL.out.symm
          have HO7 := hidIt (HO5.out.news HTL.out (.cells #[.int .i64 (k : Int)] 3))
          have HB7 := hidIt (HB5.out.trans (Below.mono (bgrow w5 (.cells #[.int .i64 (k : Int)] 3)) HB5.out.size))
          have hsz7 : w2.heap.size ≤ (w5.alloc (.cells #[.int .i64 (k : Int)] 3)).heap.size := HB7.out.size
          go_wp2_with (at_builtin; refine Hid.out ?_)
          refine hidIt ?_
          refine wpList_append_kb rfl _ _ elemI rfl w2.heap.size (.slice b l d) l _ rfl HO7.out _ 1 rfl #[.int .i64 (k : Int)] 3 (heap_alloc_new _ _) rfl (one_of (by rfl)) (by omega) hsz7 ?_
          intro g8 c8 w8 hown8 hg8 hbl8
          have HB8 := hidIt (below_app5 HB7.out hg8 (fun g e => (owns_blk HO7.out g e).1) hsz7)
          have HO8 : Hid (OwnI w8 w2.heap.size (.slice (some ⟨g8, 0, none⟩) (l + 1) c8) (ints (setTo F (k + 1)))) := by
            have := OwnI.done HTL.out hown8
            show OwnI _ _ _ _
            rw [HST.out]
            unfold ints at this ⊢
            rw [List.map_append]
            exact this
          have HL8 : Hid (l + 1 = (setTo F (k + 1)).length) := by show _ = _; rw [HST.out, List.length_append, ← HL.out]; rfl
          clear hown8 hg8 hbl8 HO7 HB7 hsz7 HO5 HB5
          go_wp2_with fail
          go_roundw
          case rel => exact ⟨k + 1, l + 1, some ⟨g8, 0, none⟩, c8, by omega, (by first | rfl | trivial), by go_num, HL8.out, HO8.out, HB8.out⟩
          case measure => simp [intOf]; omega
      · rw [Bool.true_or] at HOX
        rw [HOX.out, if_pos rfl] at HST
        clear HD
        go_wp2_with fail
        refine HC.out.mono ?_
        rintro e w5 ⟨rfl, rfl⟩
        have HO5 := hidIt HO.out
        have HB5 := hidIt HBr.out
        clear HO HBr x0 x1 lx HXr
        have HTL : Hid ((ints (setTo F k)).length = l) := by show _ = _; rw [ints_len]; exact HL.out.symm
        have HO7 := hidIt (HO5.out.news HTL.out (.cells #[.int .i64 (k : Int)] 3))
        have HB7 := hidIt (HB5.out.trans (Below.mono (bgrow w5 (.cells #[.int .i64 (k : Int)] 3)) HB5.out.size))
        have hsz7 : w2.heap.size ≤ (w5.alloc (.cells #[.int .i64 (k : Int)] 3)).heap.size := HB7.out.size
        go_wp2_with (at_builtin; refine Hid.out ?_)
        refine hidIt ?_
        refine wpList_append_kb rfl _ _ elemI rfl w2.heap.size (.slice b l d) l _ rfl HO7.out _ 1 rfl #[.int .i64 (k : Int)] 3 (heap_alloc_new _ _) rfl (one_of (by rfl)) (by omega) hsz7 ?_
        intro g8 c8 w8 hown8 hg8 hbl8
        have HB8 := hidIt (below_app5 HB7.out hg8 (fun g e => (owns_blk HO7.out g e).1) hsz7)
        have HO8 : Hid (OwnI w8 w2.heap.size (.slice (some ⟨g8, 0, none⟩) (l + 1) c8) (ints (setTo F (k + 1)))) := by
          have := OwnI.done HTL.out hown8
          show OwnI _ _ _ _
          rw [HST.out]
          unfold ints at this ⊢
          rw [List.map_append]
          exact this
        have HL8 : Hid (l + 1 = (setTo F (k + 1)).length) := by show _ = _; rw [HST.out, List.length_append, ← HL.out]; rfl
        clear hown8 hg8 hbl8 HO7 HB7 hsz7 HO5 HB5
        go_wp2_with fail
        go_roundw
        case rel => exact ⟨k + 1, l + 1, some ⟨g8, 0, none⟩, c8, by omega, (by first | rfl | trivial), by go_num, HL8.out, HO8.out, HB8.out⟩
        case measure => simp [intOf]; omega
    · obtain rfl : k = N := by omega
      have hkI : ¬ (k : Int) < (k : Int) := by omega
      have HLR : Hid (l = R.length) := by show _ = _; rw [HL.out, HF.out, ints_len]
      have HOF := hidIt (HO.out.base (B' := w.heap.size) HB2.out.size)
      have HBF := hidIt (HB2.out.trans (Below.mono HBr.out HB2.out.size))
      rw [← HF.out] at HOF
      go_wp2_with fail
      go_ret
      rw [← HLR.out]
      exact ⟨b, d, rfl, HOF.out, HBF.out⟩

set_option maxRecDepth 100000 in
set_option maxHeartbeats 4000000 in
theorem raIsStable_any (N : Nat) (v v2 : Value) (ps : List (Int × Int)) (x : List Int) (w : World) (h : PairsAt w v ps) (hok : GOk (N : Int) ps) (hpl : ps.length ≤ 1000) (hs : IL w v2 x) (hsl : x.length ≤ 100000) :
    Calls Tryd.prog 23 #[.agg #[.int .i64 (N : Int), v], v2] w fun e w' => e = .returned (.bool (setB N x && stabX N ps (memB x))) ∧ Below w.heap.size w w' := by
  have hB := bgrow w (.cells #[.int .i64 (N : Int), v] 27)
  have H1 := hidIt (h.below hB)
  have H2 := hidIt (hs.below hB)
  obtain ⟨a, c, rfl, -⟩ := h.form
  obtain ⟨a2, c2, rfl, -⟩ := (hs.below hB).form
  have HX := hidIt (heap_alloc_new w (.cells #[.int .i64 (N : Int), .slice a ps.length c] 27))
  have HB := hidIt hB
  have HPL := hidIt hpl
  have HSL := hidIt hsl
  have HOK := hidIt hok
  have hN : N ≤ 40 := by have := hok.n40; omega
  obtain ⟨R, hR⟩ : ∃ R, R = (setB N x && stabX N ps (memB x)) := ⟨_, rfl⟩
  have HM := hidIt hR
  rw [← hR]
  clear hR
  clear h hs hB hok hpl hsl
  go_enter Tryd.func23, Tryd.ntmps23
  go_upto_region 1 with (fail)
  generalize (w.alloc (.cells #[.int .i64 (N : Int), .slice a ps.length c] 27)) = w1 at *
  obtain ⟨P, hP⟩ : ∃ P, P = w.heap.size := ⟨_, rfl⟩
  have HP := hidIt hP
  rw [← hP] at HX ⊢
  clear hP
  obtain ⟨x0, x1⟩ := And.intro (cell_two0 HX.out) (cell_two1 HX.out)
  have lx := lt_of_block HX.out
  have X0 := fun y => Ext.cell x0 y
  have X1 := fun y => Ext.cell x1 y
  have LX := fun y : In (Ext w1) => Nat.lt_of_lt_of_le lx (Below.size y.h)
  cases hc : (setB N x && cfX ps (memB x))
  · have HE : Hid (R = false) := by
      show _ = _
      rw [HM.out]
      unfold stabX
      cases hs : setB N x
      · rfl
      · rw [hs, Bool.true_and] at hc; rw [hc]; rfl
    have HC : Hid (∀ wx : World, Ext w1 wx → Calls Tryd.prog 17 #[.agg #[.int .i64 (N : Int), .slice a ps.length c], .slice a2 x.length c2] wx fun e w' => e = .returned (.bool false) ∧ Below wx.heap.size wx w') := fun wx hC => by
      have := raConflictFree_any N _ _ ps x wx (H1.out.below hC) HOK.out (by have := HPL.out; omega) (H2.out.below hC) HSL.out
      rwa [hc] at this
    clear hc
    haveI := Ext.nonempty w1
    refine wp_region_in (Ext w1) (by kernel_rfl) (by kernel_rfl) (Ext.start w1) ?_
    repeat (go_big_quiet_step ((go_at_call 17; refine Ext.call (HC.out _ (In.h _)))))
    refine wpQuiet_nil ?_
    rintro w5 ⟨⟨_, h5⟩, rfl⟩
    have HB5 := hidIt (HB.out.trans (Below.mono h5 HB.out.size))
    clear h5 X0 X1 LX x0 x1 lx
    go_wp2_with fail
    go_ret
    exact ⟨ret_bool HE.out.symm, HB5.out⟩
  have hset : setB N x = true := by
    rw [Bool.and_eq_true] at hc
    exact hc.1
  have HKY : Hid (decide ((rangeL N ps x).length = N) = R) := by
    show _ = _
    rw [HM.out, range_all hset, hset]
    unfold stabX
    rw [Bool.and_eq_true] at hc
    rw [hc.2]
    rfl
  have HKB : Hid ((((rangeL N ps x).length : Int) == (N : Int)) = R) := by
    show _ = _
    rw [← HKY.out, Bool.eq_iff_iff, beq_iff_eq, decide_eq_true_eq]
    omega
  have CA : Hid (∀ wx, Ext w1 wx → Calls Tryd.prog 17 #[.agg #[.int .i64 (N : Int), .slice a ps.length c], .slice a2 x.length c2] wx fun e w'' => ∃ u, e = .returned u ∧ Ext w1 w'' ∧ Grows wx w'' ∧ isB true u w'') := fun wx hC => rel_call hC ((raConflictFree_any N _ _ ps x wx (H1.out.below hC) HOK.out (by have := HPL.out; omega) (H2.out.below hC) HSL.out).mono fun e w'' ⟨h1, h2⟩ => ⟨_, h1, (by rw [hc]; rfl), h2⟩)
  have CB : Hid (∀ wx, Ext w1 wx → Calls Tryd.prog 28 #[.agg #[.int .i64 (N : Int), .slice a ps.length c], .slice a2 x.length c2] wx fun e w'' => ∃ u, e = .returned u ∧ Ext w1 w'' ∧ Grows wx w'' ∧ isIq13 (rangeL N ps x).length (rangeL N ps x) u w'') := fun wx hC => rel_call hC ((raRange_any N _ _ ps x wx (H1.out.below hC) HOK.out HPL.out (H2.out.below hC) HSL.out).mono fun e w'' ⟨ra, rc, h1, h2, h3⟩ => ⟨_, h1, ⟨ra, rc, rfl, h2.il⟩, h3⟩)
  generalize rangeL N ps x = RL at *
  obtain ⟨L, hL⟩ : ∃ L, L = RL.length := ⟨_, rfl⟩
  rw [← hL] at CB HKB
  clear hc hset hL HKY X0 X1 LX
  have X0 : ∀ wx, Ext w1 wx → wx.cell? ⟨P, 0, none⟩ = some (.int .i64 (N : Int)) := fun wx hC => (Below.cell (p := ⟨P, 0, none⟩) hC lx).trans x0
  have X1 : ∀ wx, Ext w1 wx → wx.cell? ⟨P, 1, none⟩ = some (.slice a ps.length c) := fun wx hC => (Below.cell (p := ⟨P, 1, none⟩) hC lx).trans x1
  haveI := Ext.nonempty w1
  refine wp_region_rel (Ext w1) Grows (relTab [(7, isB true), (11, isIq13 L RL)]) (by kernel_rfl) (by kernel_rfl) (by kernel_rfl) (stable_cons (isB_up _) (stable_cons (isIq13_up _ _) (stable_nil _))) (Ext.start w1) ?_
  repeat (
    refine' walkR_plain (by kernel_rfl) rfl rfl (fun wx hC hL => ?_) ?_
    rotate_left
    · (have hls := Below.size hC
       have hllx := Nat.lt_of_lt_of_le lx hls
       simp only [X0 wx hC, X1 wx hC, hllx, go_sem]; first | done | (go_simp; exact ⟨rfl, rfl⟩))
    simp only [Act.put, List.setIfInBounds_toArray, List.set_cons_zero, List.set_cons_succ])
  refine walkR_rel (by kernel_rfl) rfl rfl (of_decide_eq_true (by kernel_rfl)) (fun wx hC hL => ?_) (fun v hv => ?_)
  · go_simp
    exact CA.out wx hC
  obtain ⟨_, _, rfl⟩ := hv
  simp only [Act.put, List.setIfInBounds_toArray, List.set_cons_zero, List.set_cons_succ]
  repeat (
    refine' walkR_plain (by kernel_rfl) rfl rfl (fun wx hC hL => ?_) ?_
    rotate_left
    · (have hls := Below.size hC
       have hllx := Nat.lt_of_lt_of_le lx hls
       simp only [X0 wx hC, X1 wx hC, hllx, go_sem]; first | done | (go_simp; exact ⟨rfl, rfl⟩))
    simp only [Act.put, List.setIfInBounds_toArray, List.set_cons_zero, List.set_cons_succ])
  refine walkR_rel (by kernel_rfl) rfl rfl (of_decide_eq_true (by kernel_rfl)) (fun wx hC hL => ?_) (fun v hv => ?_)
  · go_simp
    exact CB.out wx hC
  obtain ⟨_, _, a11, c11, rfl, -⟩ := hv
  simp only [Act.put, List.setIfInBounds_toArray, List.set_cons_zero, List.set_cons_succ]
  repeat (
    refine' walkR_plain (by kernel_rfl) rfl rfl (fun wx hC hL => ?_) ?_
    rotate_left
    · (have hls := Below.size hC
       have hllx := Nat.lt_of_lt_of_le lx hls
       simp only [X0 wx hC, X1 wx hC, hllx, go_sem]; first | done | (go_simp; exact ⟨rfl, rfl⟩))
    simp only [Act.put, List.setIfInBounds_toArray, List.set_cons_zero, List.set_cons_succ])
  refine fun w6 hC6 hK => ?_
  have HB6 := hidIt (HB.out.trans (Below.mono (show Below w1.heap.size w1 w6 from hC6) HB.out.size))
  clear hK hC6 X0 X1 x0 x1 lx
  go_wp2_with fail
  go_ret
  exact ⟨by rw [HKB.out]; rfl, HB6.out⟩
end Go.Proofs.YtihmdnbeonefcaaDoor
