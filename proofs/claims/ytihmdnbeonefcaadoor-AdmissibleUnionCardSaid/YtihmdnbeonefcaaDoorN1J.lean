/- The reference's Step, inside, Admissible, IsComplete, Range; keep's Inside. -/
import Derived.Test.YtihmdnbeonefcaaDoorN1I
import Derived.Test.YtihmdnbeonefcaaDoorL1E
namespace Go.Proofs.YtihmdnbeonefcaaDoor
set_option linter.unusedVariables false
set_option linter.unusedSimpArgs false
open Go Go.RowKit Go.Sort

/-- All elements of the one are elements of the other. -/
def subL (xs ys : List Int) : Bool := !(xs.any fun z => !decide (z ∈ ys))
theorem subL_iff {xs ys : List Int} : subL xs ys = true ↔ ∀ z ∈ xs, z ∈ ys := by
  unfold subL
  rw [Bool.not_eq_true', List.any_eq_false]
  constructor
  · intro h z hz
    have := h z hz
    simpa using this
  · intro h z hz
    simp [h z hz]
theorem subL_set {N : Nat} {X Y : Nat → Bool} : subL (setL N X) (setL N Y) = subX N X Y := by
  rw [Bool.eq_iff_iff, subL_iff, subX_iff]
  constructor
  · intro h i hi hx
    obtain ⟨j, h1, h2, h3⟩ := mem_setL.1 (h (i : Int) (mem_setL.2 ⟨i, hi, hx, rfl⟩))
    obtain rfl : i = j := Int.ofNat.inj h3
    exact h2
  · intro h z hz
    obtain ⟨i, h1, h2, rfl⟩ := mem_setL.1 hz
    exact mem_setL.2 ⟨i, h1, h i h1 h2, rfl⟩

set_option maxRecDepth 100000 in
set_option maxHeartbeats 1000000 in
theorem kInside_any (v1 v2 : Value) (xs ys : List Int) (w : World) (h1 : IL w v1 xs) (h2 : IL w v2 ys) (hn : xs.length ≤ 100000) (hm : ys.length ≤ 100000) :
    Calls Tryd.prog 38 #[v1, v2] w fun e w' => e = .returned (.bool (subL xs ys)) ∧ w' = w := by
  have H2 := hidIt h2
  have HMN := hidIt hm
  obtain ⟨a1, c1, rfl, k1⟩ := h1.ic
  have K1 := hidIt k1
  obtain ⟨a2, c2, rfl, -⟩ := h2.form
  have HR : Hid (subL xs ys = !(xs.any fun z => !decide (z ∈ ys))) := (rfl : _ = _)
  generalize subL xs ys = R at *
  generalize hg : (fun z : Int => !decide (z ∈ ys)) = g at HR
  have HG : Hid (∀ z : Int, decide (z ∈ ys) = !(g z)) := fun z => by rw [← hg, Bool.not_not]
  clear h1 h2 k1 hg hm
  obtain ⟨M, hM⟩ : ∃ M, M = xs.length := ⟨_, rfl⟩
  have HX := hidIt hM
  rw [← hM] at hn ⊢
  clear hM
  go_enter Tryd.func38, Tryd.ntmps38
  go_wp2_with fail
  go_loopw [5, 8] (fun _ i wr => ∃ k : Nat, k ≤ M ∧ i = .int .i64 k ∧ wr = w ∧ Hid ((xs.take k).any g = false)) (fun _ i _ => M - (intOf i).toNat)
  case atStart => exact ⟨0, Nat.zero_le _, (by first | rfl | trivial), (by first | rfl | trivial), (rfl : (([] : List Int).any _) = false)⟩
  case round =>
    obtain ⟨k, hk, rfl, rfl, HT⟩ := hrel
    have hkI0 : (0 : Int) ≤ (k : Int) := by omega
    by_cases hlt : k < M
    · have hkI : (k : Int) < (M : Int) := by omega
      have h1x : k < xs.length := by have := HX.out; omega
      obtain ⟨b1, o1, rfl, l1, hc1⟩ := K1.out.at_ h1x
      have p0 := hc1 k h1x
      have HST := hidIt (any_step13 h1x g)
      have HTL : Hid (g xs[k] = true → xs.any g = true) := fun h => List.any_eq_true.2 ⟨_, List.getElem_mem h1x, h⟩
      generalize xs[k] = z at *
      clear hc1 h1x
      have HC := hidIt (kIn_any _ ys z wr H2.out (by have := HMN.out; omega))
      rw [HG.out z] at HC
      cases hgz : g z
      · have HE : Hid ((xs.take (k + 1)).any g = false) := by show _ = _; rw [HST.out, HT.out, hgz]; rfl
        rw [hgz] at HC
        clear hgz
        go_wp2_with fail
        refine HC.out.mono ?_
        rintro e w5 ⟨rfl, rfl⟩
        go_wp2_with fail
        go_roundw
        case rel => exact ⟨k + 1, by omega, by go_num, (by first | rfl | trivial), HE.out⟩
        case measure => simp [intOf]; omega
      · have HE : Hid (R = false) := by show _ = _; rw [HR.out, HTL.out hgz]; rfl
        rw [hgz] at HC
        clear hgz
        go_wp2_with fail
        refine HC.out.mono ?_
        rintro e w5 ⟨rfl, rfl⟩
        go_wp2_with fail
        go_ret
        exact ⟨ret_bool HE.out.symm, rfl⟩
    · have hkI : ¬ (k : Int) < (M : Int) := by omega
      have HE : Hid (R = true) := by
        have := HT.out
        rw [List.take_of_length_le (by have := HX.out; omega)] at this
        show _ = _
        rw [HR.out, this]
        rfl
      go_wp2_with fail
      go_ret
      exact ⟨ret_bool HE.out.symm, rfl⟩

set_option maxRecDepth 100000 in
set_option maxHeartbeats 1000000 in
theorem raInside_any (v1 v2 : Value) (xs ys : List Int) (w : World) (h1 : IL w v1 xs) (h2 : IL w v2 ys) (hn : xs.length ≤ 100000) (hm : ys.length ≤ 100000) :
    Calls Tryd.prog 52 #[v1, v2] w fun e w' => e = .returned (.bool (subL xs ys)) ∧ w' = w := by
  have H2 := hidIt h2
  have HMN := hidIt hm
  obtain ⟨a1, c1, rfl, k1⟩ := h1.ic
  have K1 := hidIt k1
  obtain ⟨a2, c2, rfl, -⟩ := h2.form
  have HR : Hid (subL xs ys = !(xs.any fun z => !decide (z ∈ ys))) := (rfl : _ = _)
  generalize subL xs ys = R at *
  generalize hg : (fun z : Int => !decide (z ∈ ys)) = g at HR
  have HG : Hid (∀ z : Int, decide (z ∈ ys) = !(g z)) := fun z => by rw [← hg, Bool.not_not]
  clear h1 h2 k1 hg hm
  obtain ⟨M, hM⟩ : ∃ M, M = xs.length := ⟨_, rfl⟩
  have HX := hidIt hM
  rw [← hM] at hn ⊢
  clear hM
  go_enter Tryd.func52, Tryd.ntmps52
  go_wp2_with fail
  go_loopw [5] (fun i wr => ∃ k : Nat, k ≤ M ∧ i = .int .i64 k ∧ wr = w ∧ Hid ((xs.take k).any g = false)) (fun i _ => M - (intOf i).toNat)
  case atStart => exact ⟨0, Nat.zero_le _, (by first | rfl | trivial), (by first | rfl | trivial), (rfl : (([] : List Int).any _) = false)⟩
  case round =>
    obtain ⟨k, hk, rfl, rfl, HT⟩ := hrel
    have hkI0 : (0 : Int) ≤ (k : Int) := by omega
    by_cases hlt : k < M
    · have hkI : (k : Int) < (M : Int) := by omega
      have h1x : k < xs.length := by have := HX.out; omega
      obtain ⟨b1, o1, rfl, l1, hc1⟩ := K1.out.at_ h1x
      have p0 := hc1 k h1x
      have HST := hidIt (any_step13 h1x g)
      have HTL : Hid (g xs[k] = true → xs.any g = true) := fun h => List.any_eq_true.2 ⟨_, List.getElem_mem h1x, h⟩
      generalize xs[k] = z at *
      clear hc1 h1x
      have HC := hidIt (rlIn_any _ ys z wr H2.out (by have := HMN.out; omega))
      rw [HG.out z] at HC
      cases hgz : g z
      · have HE : Hid ((xs.take (k + 1)).any g = false) := by show _ = _; rw [HST.out, HT.out, hgz]; rfl
        rw [hgz] at HC
        clear hgz
        go_wp2_with fail
        refine HC.out.mono ?_
        rintro e w5 ⟨rfl, rfl⟩
        go_wp2_with fail
        go_roundw
        case rel => exact ⟨k + 1, by omega, by go_num, (by first | rfl | trivial), HE.out⟩
        case measure => simp [intOf]; omega
      · have HE : Hid (R = false) := by show _ = _; rw [HR.out, HTL.out hgz]; rfl
        rw [hgz] at HC
        clear hgz
        go_wp2_with fail
        refine HC.out.mono ?_
        rintro e w5 ⟨rfl, rfl⟩
        go_wp2_with fail
        go_ret
        exact ⟨ret_bool HE.out.symm, rfl⟩
    · have hkI : ¬ (k : Int) < (M : Int) := by omega
      have HE : Hid (R = true) := by
        have := HT.out
        rw [List.take_of_length_le (by have := HX.out; omega)] at this
        show _ = _
        rw [HR.out, this]
        rfl
      go_wp2_with fail
      go_ret
      exact ⟨ret_bool HE.out.symm, rfl⟩

/-- The nodes below k that are in the set. -/
def setTo (X : Nat → Bool) (k : Nat) : List Nat := (List.range k).filter X
theorem setTo_step (X : Nat → Bool) (k : Nat) : setTo X (k + 1) = setTo X k ++ if X k = true then [k] else [] := by
  unfold setTo
  rw [List.range_succ, List.filter_append]
  congr 1
  cases h : X k <;> simp [h]
theorem setTo_len (X : Nat → Bool) (k : Nat) : (setTo X k).length ≤ k := by
  unfold setTo
  exact Nat.le_trans (List.length_filter_le _ _) (by rw [List.length_range]; exact Nat.le_refl _)
def stepX (N : Nat) (ps : List (Int × Int)) (x : List Int) (i : Nat) : Bool := setB N x && dfX ps (memB x) i
theorem stepX_list (N : Nat) (ps : List (Int × Int)) (x : List Int) : ints (setTo (stepX N ps x) N) = stepL N ps x := by
  unfold stepL
  cases h : setB N x
  · rw [if_neg (by decide)]
    have : setTo (stepX N ps x) N = [] := by
      unfold setTo
      rw [List.filter_eq_nil_iff]
      intro i _
      unfold stepX
      rw [h]
      simp
    rw [this]; rfl
  · rw [if_pos rfl]
    show setL N _ = _
    exact setL_congr fun i _ => by unfold stepX; rw [h]; rfl

set_option maxRecDepth 100000 in
set_option maxHeartbeats 2000000 in
theorem raStep_any (N : Nat) (v v2 : Value) (ps : List (Int × Int)) (x : List Int) (w : World) (h : PairsAt w v ps) (hok : GOk (N : Int) ps) (hpl : ps.length ≤ 1000) (hs : IL w v2 x) (hsl : x.length ≤ 100000) :
    Calls Tryd.prog 26 #[.agg #[.int .i64 (N : Int), v], v2] w fun e w' => ∃ (a : Option Addr) (c : Nat), e = .returned (.slice a (stepL N ps x).length c) ∧ OwnI w' w.heap.size (.slice a (stepL N ps x).length c) (stepL N ps x) ∧ Below w.heap.size w w' := by
  have hB := bgrow w (.cells #[.int .i64 (N : Int), v] 27)
  have H1 := hidIt (h.below hB)
  have H2 := hidIt (hs.below hB)
  obtain ⟨a, c, rfl, -⟩ := h.form
  obtain ⟨a2, c2, rfl, -⟩ := (hs.below hB).form
  have HX := hidIt (heap_alloc_new w (.cells #[.int .i64 (N : Int), .slice a ps.length c] 27))
  have HB := hidIt hB
  have HPL := hidIt hpl
  have HSL := hidIt hsl
  have HOK := hidIt hok
  have hN : N ≤ 40 := by have := hok.n40; omega
  have HXL := hidIt (stepX_list N ps x)
  have HSX : Hid (∀ i, i < N → (setB N x && (ixB (i : Int) (N : Int) && dfX ps (memB x) (i : Int).toNat)) = stepX N ps x i) := fun i hi => by
    have : ixB (i : Int) (N : Int) = true := by unfold ixB; simp; omega
    rw [this, Int.toNat_natCast]
    rfl
  generalize stepL N ps x = R at *
  generalize stepX N ps x = F at *
  clear h hs hB hok hpl hsl
  go_enter Tryd.func26, Tryd.ntmps26
  go_upto_region 1 with (fail)
  generalize (w.alloc (.cells #[.int .i64 (N : Int), .slice a ps.length c] 27)) = w1 at *
  obtain ⟨P, hP⟩ : ∃ P, P = w.heap.size := ⟨_, rfl⟩
  have HP := hidIt hP
  rw [← hP] at HX ⊢
  clear hP
  have lP := lt_of_block HX.out
  go_wp2_with fail
  have HI1 : Hid (Below w1.heap.size w1 w1) := Below.refl _ _
  go_loopw [5, 6] (fun v5 i wr => ∃ (k l : Nat) (b : Option Addr) (d : Nat), k ≤ N ∧ v5 = .slice b l d ∧ i = .int .i64 k ∧ Hid (l = (setTo F k).length) ∧ Hid (OwnI wr w1.heap.size (.slice b l d) (ints (setTo F k))) ∧ Hid (Below w1.heap.size w1 wr)) (fun _ i _ => N - (intOf i).toNat)
  case atStart => exact ⟨0, 0, none, 0, Nat.zero_le _, (by first | rfl | trivial), (by first | rfl | trivial), (rfl : 0 = (setTo F 0).length), OwnI.nil _ _, Below.refl _ _⟩
  case round =>
    obtain ⟨k, l, b, d, hk, rfl, rfl, HL, HO, HBr⟩ := hrel
    have hkI0 : (0 : Int) ≤ (k : Int) := by omega
    have HXr := hidIt (blk_kept2 HX.out HBr.out)
    obtain ⟨x0, x1⟩ := And.intro (cell_two0 HXr.out) (cell_two1 HXr.out)
    have lx := lt_of_block HXr.out
    by_cases hlt : k < N
    · have hkI : (k : Int) < (N : Int) := by omega
      have HST := hidIt (setTo_step F k)
      have hl5 : l ≤ k := by rw [HL.out]; exact setTo_len _ _
      have HC := hidIt (raDefends_any N _ _ ps x (k : Int) wr (H1.out.below HBr.out) HOK.out HPL.out (H2.out.below HBr.out) HSL.out)
      rw [HSX.out k hlt] at HC
      cases hF : F k
      · rw [hF] at HC HST
        rw [if_neg (by decide), List.append_nil] at HST
        clear hF
        go_wp2_with fail
        refine HC.out.mono ?_
        rintro e w5 ⟨rfl, hb5⟩
        have HO5 := hidIt (HO.out.go hb5)
        have HB5 := hidIt (HBr.out.trans (Below.mono hb5 HBr.out.size))
        clear hb5 HO HBr
        go_wp2_with fail
        go_roundw
        case rel => exact ⟨k + 1, l, b, d, by omega, (by first | rfl | trivial), by go_num, (by rw [HST.out]; exact HL.out), (by rw [HST.out]; exact HO5.out), HB5.out⟩
        case measure => simp [intOf]; omega
      · rw [hF] at HC HST
        rw [if_pos rfl] at HST
        clear hF
        go_wp2_with fail
        refine HC.out.mono ?_
        rintro e w5 ⟨rfl, hb5⟩
        have HO5 := hidIt (HO.out.go hb5)
        have HB5 := hidIt (HBr.out.trans (Below.mono hb5 HBr.out.size))
        clear hb5 HO HBr x0 x1 lx HXr
        have HTL : Hid ((ints (setTo F k)).length = l) := by show _ = _; rw [ints_len]; exact HL.out.symm
        have HO7 := hidIt (HO5.out.news HTL.out (.cells #[.int .i64 (k : Int)] 3))
        have HB7 := hidIt (HB5.out.trans (Below.mono (bgrow w5 (.cells #[.int .i64 (k : Int)] 3)) HB5.out.size))
        have hsz7 : w1.heap.size ≤ (w5.alloc (.cells #[.int .i64 (k : Int)] 3)).heap.size := HB7.out.size
        go_wp2_with (at_builtin; refine Hid.out ?_)
        refine hidIt ?_
        refine wpList_append_kb rfl _ _ elemI rfl w1.heap.size (.slice b l d) l _ rfl HO7.out _ 1 rfl #[.int .i64 (k : Int)] 3 (heap_alloc_new _ _) rfl (one_of (by rfl)) (by omega) hsz7 ?_
        intro g8 c8 w8 hown8 hg8 hbl8
        have HB8 := hidIt (below_app5 HB7.out hg8 (fun g e => (owns_blk HO7.out g e).1) hsz7)
        have HO8 : Hid (OwnI w8 w1.heap.size (.slice (some ⟨g8, 0, none⟩) (l + 1) c8) (ints (setTo F (k + 1)))) := by
          have := OwnI.done HTL.out hown8
          show OwnI _ _ _ _
          rw [HST.out]
          unfold ints at this ⊢
          rw [List.map_append]
          exact this
        have HL8 : Hid (l + 1 = (setTo F (k + 1)).length) := by show _ = _; rw [HST.out, List.length_append, ← HL.out]; rfl
        clear hown8 hg8 hbl8 HO7 HB7 hsz7 HO5 HB5
        go_wp2_with fail
        go_roundw
        case rel => exact ⟨k + 1, l + 1, some ⟨g8, 0, none⟩, c8, by omega, (by first | rfl | trivial), by go_num, HL8.out, HO8.out, HB8.out⟩
        case measure => simp [intOf]; omega
    · obtain rfl : k = N := by omega
      have hkI : ¬ (k : Int) < (k : Int) := by omega
      have HLR : Hid (l = R.length) := by show _ = _; rw [HL.out, ← HXL.out, ints_len]
      have HOF := hidIt (HO.out.base (B' := w.heap.size) HB.out.size)
      have HBF := hidIt (HB.out.trans (Below.mono HBr.out HB.out.size))
      rw [HXL.out] at HOF
      go_wp2_with fail
      go_ret
      rw [← HLR.out]
      exact ⟨b, d, rfl, HOF.out, HBF.out⟩
end Go.Proofs.YtihmdnbeonefcaaDoor
