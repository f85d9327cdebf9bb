/- FromSet: the reference's. -/
import Derived.Test.YtbahfcefplgigaaL1G
namespace Go.Proofs.Ytbahfcefplgigaa
set_option linter.unusedVariables false
set_option linter.unusedSimpArgs false
open Go Go.RowKit Go.Sort

theorem inL_any (ps : List (Int × Int)) (i : Int) (f : Int → Bool) : (inL ps i).any f = ps.any fun p => p.2 == i && f p.1 := by
  unfold inL
  rw [List.any_map, List.any_filter]
  rfl
/-- The label of a node, as the reference finds it. -/
theorem labOf_in (ps : List (Int × Int)) (set : List Int) (i : Nat) : labOf ps set i = if decide ((i : Int) ∈ set) = true then 1 else if ((inL ps i).any fun k => decide (k ∈ set)) = true then 2 else 3 := by
  rw [inL_any]
  rfl
theorem fsF_take {N : Nat} {ps : List (Int × Int)} {set : List Int} {k : Nat} : fsF (k + 1) ps set = fsF k ps set ++ [labOf ps set k] := by
  unfold fsF fsR
  rw [List.range_succ, List.map_append]
  rfl
theorem any_stepI {zs : List Int} {k : Nat} (h : k < zs.length) (f : Int → Bool) : (zs.take (k + 1)).any f = ((zs.take k).any f || f zs[k]) := by
  rw [List.take_succ_eq_append_getElem h, List.any_append]
  simp

theorem owns_mono {w : World} {B C : Nat} {v : Value} {zs : List Int} (h : OwnI w C v zs) (hB : B ≤ C) : OwnI w B v zs := by
  refine ⟨h.1, ?_⟩
  rcases h.2 with h0 | ⟨g, cap, cur, hv, hB2, h2⟩
  · exact .inl h0
  · exact .inr ⟨g, cap, cur, hv, Nat.le_trans hB hB2, h2⟩
set_option maxRecDepth 100000 in
set_option maxHeartbeats 2000000 in
theorem rlFromSet_any (N : Nat) (v v2 : Value) (ps : List (Int × Int)) (set : List Int) (w : World) (h : PairsAt w v ps) (hok : GOk (N : Int) ps) (hl : ps.length ≤ 1000) (hs : IL w v2 set) (hsl : set.length ≤ 1000) :
    Calls Try.prog 25 #[.agg #[.int .i64 (N : Int), v], v2] w fun e w' => ∃ (a : Option Addr) (c : Nat), e = .returned (.slice a N c) ∧ OwnI w' w.heap.size (.slice a N c) (fsF N ps set) ∧ Below w.heap.size w w' := by
  have hB := bgrow w (.cells #[.int .i64 (N : Int), v] 27)
  have H1 := hidIt h
  obtain ⟨a, c, rfl, -⟩ := h.form
  have HS := hidIt hs
  obtain ⟨a2, c2, rfl, -⟩ := hs.form
  have HX := hidIt (heap_alloc_new w (.cells #[.int .i64 (N : Int), .slice a ps.length c] 27))
  have HB := hidIt hB
  have HVL := hidIt (vL_of hok)
  have hN : N ≤ 40 := by have := hok.n40; omega
  clear h hs hB hok
  obtain ⟨P, hP⟩ : ∃ P, P = w.heap.size := ⟨_, rfl⟩
  have HP := hidIt hP
  go_enter Try.func25, Try.ntmps25
  go_upto_region 1 with (fail)
  generalize (w.alloc (.cells #[.int .i64 (N : Int), .slice a ps.length c] 27)) = w1 at *
  rw [← hP] at HX ⊢
  clear hP
  obtain ⟨M, hM⟩ : ∃ M, M = ps.length := ⟨_, rfl⟩
  have HM := hidIt hM
  rw [← hM] at HX ⊢
  obtain ⟨L, hL⟩ : ∃ L, L = set.length := ⟨_, rfl⟩
  have HL := hidIt hL
  rw [← hL] at ⊢
  clear hM hL
  obtain ⟨x0, x1⟩ := And.intro (cell_two0 HX.out) (cell_two1 HX.out)
  have lx := lt_of_block HX.out
  go_wp2_with fail
  go_loopw [5, 6, 7, 9, 20] (fun v5 i _ _ _ wr => ∃ (k : Nat) (a5 : Option Addr) (c5 : Nat), k ≤ N ∧ v5 = .slice a5 k c5 ∧ i = .int .i64 k ∧ Hid (OwnI wr (w.heap.size + 1) (.slice a5 k c5) (fsF k ps set)) ∧ Hid (wr.heap[P]? = some (.cells #[.int .i64 (N : Int), .slice a M c] 27 (0, 0))) ∧ Hid (Below w.heap.size w wr)) (fun _ i _ _ _ _ => N - (intOf i).toNat)
  case atStart => exact ⟨0, none, 0, Nat.zero_le _, (by first | rfl | trivial), (by first | rfl | trivial), OwnI.nil _ _, HX.out, HB.out⟩
  case round =>
    clear HX HB x0 x1 lx
    obtain ⟨k, a5, c5, hk, rfl, rfl, HO, HX, HB⟩ := hrel
    have hkI0 : (0 : Int) ≤ (k : Int) := by omega
    obtain ⟨x0, x1⟩ := And.intro (cell_two0 HX.out) (cell_two1 HX.out)
    have lx := lt_of_block HX.out
    by_cases hlt : k < N
    · have hkI : (k : Int) < (N : Int) := by omega
      go_wp2_with fail
      have HC := hidIt (rgAttackers_any (N : Int) _ ps (k : Int) wr (H1.out.below HB.out) hl)
      rw [HVL.out, ← HM.out] at HC
      refine HC.out.mono ?_
      rintro e w2 ⟨v2, rfl, hi2, hb2⟩
      have HIL := hidIt (inL_len ps k)
      have HLAB := hidIt (labOf_in ps set k)
      have HFT := hidIt (fsF_take (N := N) (ps := ps) (set := set) (k := k))
      generalize inL ps k = ats at *
      obtain ⟨a6, c6, rfl, hic6⟩ := hi2.ic
      have HIC6 := hidIt hic6
      have HO2 := hidIt (HO.out.go hb2)
      have HX2 := hidIt (blk_kept2 HX.out hb2)
      have HB2 := hidIt (HB.out.trans (Below.mono hb2 HB.out.size))
      obtain ⟨A, hA⟩ : ∃ A, A = ats.length := ⟨_, rfl⟩
      have HA := hidIt hA
      rw [← hA]
      have hA1 : A ≤ 1000 := by have := HIL.out; omega
      clear hA hic6 hi2 hb2 HC HO HX HB x0 x1 lx
      go_wp2_with fail
      go_loopw [7, 9, 20] (fun v7 _ i wx => ∃ q : Nat, q ≤ A ∧ v7 = .int .i64 (if ((ats.take q).any fun k => decide (k ∈ set)) = true then 2 else 3) ∧ i = .int .i64 q ∧ wx = w2) (fun _ _ i _ => A - (intOf i).toNat)
      case atStart => exact ⟨0, Nat.zero_le _, (by first | rfl | trivial), (by first | rfl | trivial), rfl⟩
      case round =>
        obtain ⟨q, hq, rfl, rfl, rfl⟩ := hrel
        have hqI0 : (0 : Int) ≤ (q : Int) := by omega
        by_cases hlt2 : q < A
        · have hqI : (q : Int) < (A : Int) := by omega
          have h1x : q < ats.length := by have := HA.out; omega
          obtain ⟨b1, o1, rfl, l1, hc1⟩ := HIC6.out.at_ h1x
          have p0 := hc1 q h1x
          have HST := hidIt (any_stepI h1x fun k => decide (k ∈ set))
          clear hc1
          generalize ats[q] = z at *
          clear h1x
          have HSW := hidIt (HS.out.below HB2.out)
          rw [← HL.out] at HSW
          cases hz : decide (z ∈ set)
          · rw [hz, Bool.or_false] at HST
            rw [← HST.out]
            have HZ := hidIt hz
            clear hz
            generalize hlab : (if ((ats.take (q + 1)).any fun k => decide (k ∈ set)) = true then (2 : Int) else 3) = lab at *
            have HLB := hidIt hlab
            clear hlab
            go_wp2_with fail
            refine (rlIn_any _ set z _ (by first | exact HSW.out | (have h := HSW.out; rw [HL.out] at h ⊢; exact h)) (by omega)).mono ?_
            rw [HZ.out]
            rintro e w4 ⟨rfl, rfl⟩
            go_wp2_with fail
            go_roundw
            case rel => exact ⟨q + 1, by omega, (by first | rfl | (rw [HLB.out]) | (rw [HLB.out]; trivial)), by go_num, (by first | rfl | trivial)⟩
            case measure => simp [intOf]; omega
          · rw [hz, Bool.or_true] at HST
            have HZ := hidIt hz
            clear hz
            generalize (if ((ats.take q).any fun k => decide (k ∈ set)) = true then (2 : Int) else 3) = lab at *
            go_wp2_with fail
            refine (rlIn_any _ set z _ (by first | exact HSW.out | (have h := HSW.out; rw [HL.out] at h ⊢; exact h)) (by omega)).mono ?_
            rw [HZ.out]
            rintro e w4 ⟨rfl, rfl⟩
            go_wp2_with fail
            go_roundw
            case rel => exact ⟨q + 1, by omega, (by first | (rw [HST.out]; rfl) | (simp [HST.out])), by go_num, (by first | rfl | trivial)⟩
            case measure => simp [intOf]; omega
        · obtain rfl : q = A := by omega
          have hqI : ¬ (q : Int) < (q : Int) := by omega
          rw [List.take_of_length_le (by have := HA.out; omega)]
          generalize (if (ats.any fun k => decide (k ∈ set)) = true then (2 : Int) else 3) = lab at *
          have HSW := hidIt (HS.out.below HB2.out)
          rw [← HL.out] at HSW
          have HTL : Hid ((fsF k ps set).length = k) := fsF_len _ _ _
          generalize fsF k ps set = zs at *
          cases hz : decide ((k : Int) ∈ set)
          · have HE : Hid (labOf ps set k = lab) := by show _ = _; rw [HLAB.out, hz]; rfl
            have HZ := hidIt hz
            clear hz
            go_wp2_with fail
            refine (rlIn_any _ set (k : Int) _ (by first | exact HSW.out | (have h := HSW.out; rw [HL.out] at h ⊢; exact h)) (by omega)).mono ?_
            rw [HZ.out]
            rintro e w4 ⟨rfl, rfl⟩
            have HO7 := hidIt (HO2.out.news HTL.out (.cells #[.int .i64 lab] 3))
            have HB7 := hidIt (HB2.out.trans (Below.mono (bgrow w4 (.cells #[.int .i64 lab] 3)) HB2.out.size))
            have HX7 := hidIt (blk_kept2 HX2.out (bgrow w4 (.cells #[.int .i64 lab] 3)))
            have hsz7 : w.heap.size + 1 ≤ (w4.alloc (.cells #[.int .i64 lab] 3)).heap.size := by have := lt_of_block HX7.out; have := HP.out; omega
            have hPw : P < w.heap.size + 1 := by have := HP.out; omega
            go_wp2_with (at_builtin; refine Hid.out ?_)
            refine hidIt ?_
            refine wpList_append_kb rfl _ _ elemI rfl (w.heap.size + 1) (.slice a5 k c5) k _ rfl HO7.out _ 1 rfl #[.int .i64 lab] 3 (heap_alloc_new _ _) rfl (one_of (by rfl)) (by omega) hsz7 ?_
            intro g8 c8 w8 hown8 hg8 hbl8
            have hOB : ∀ g, (Value.slice a5 k c5).ownBlock = some g → w.heap.size + 1 ≤ g := fun g e => (owns_blk HO7.out g e).1
            have HB8 := hidIt (below_app5 HB7.out hg8 (fun g e => by have := hOB g e; omega) (Nat.le_of_succ_le hsz7))
            have HX8 := hidIt ((hg8.block P (lt_of_block HX7.out) (fun e => by have := hOB _ e.symm; omega)).trans HX7.out)
            have HO8 : Hid (OwnI w8 (w.heap.size + 1) (.slice (some ⟨g8, 0, none⟩) (k + 1) c8) (zs ++ [lab])) := OwnI.done HTL.out hown8
            rw [HE.out] at HFT
            clear hown8 hg8 hbl8 HO7 HB7 hsz7 HO2 HB2 hOB HX7
            go_wp2_with fail
            go_roundw
            case rel => exact ⟨k + 1, some ⟨g8, 0, none⟩, c8, by omega, (by first | rfl | trivial), by go_num, (by rw [HFT.out]; exact HO8.out), HX8.out, HB8.out⟩
            case measure => simp [intOf]; omega
          · have HE : Hid (labOf ps set k = 1) := by show _ = _; rw [HLAB.out, hz]; rfl
            have HZ := hidIt hz
            clear hz
            go_wp2_with fail
            refine (rlIn_any _ set (k : Int) _ (by first | exact HSW.out | (have h := HSW.out; rw [HL.out] at h ⊢; exact h)) (by omega)).mono ?_
            rw [HZ.out]
            rintro e w4 ⟨rfl, rfl⟩
            have HO7 := hidIt (HO2.out.news HTL.out (.cells #[.int .i64 1] 3))
            have HB7 := hidIt (HB2.out.trans (Below.mono (bgrow w4 (.cells #[.int .i64 1] 3)) HB2.out.size))
            have HX7 := hidIt (blk_kept2 HX2.out (bgrow w4 (.cells #[.int .i64 1] 3)))
            have hsz7 : w.heap.size + 1 ≤ (w4.alloc (.cells #[.int .i64 1] 3)).heap.size := by have := lt_of_block HX7.out; have := HP.out; omega
            have hPw : P < w.heap.size + 1 := by have := HP.out; omega
            go_wp2_with (at_builtin; refine Hid.out ?_)
            refine hidIt ?_
            refine wpList_append_kb rfl _ _ elemI rfl (w.heap.size + 1) (.slice a5 k c5) k _ rfl HO7.out _ 1 rfl #[.int .i64 1] 3 (heap_alloc_new _ _) rfl (one_of (by rfl)) (by omega) hsz7 ?_
            intro g8 c8 w8 hown8 hg8 hbl8
            have hOB : ∀ g, (Value.slice a5 k c5).ownBlock = some g → w.heap.size + 1 ≤ g := fun g e => (owns_blk HO7.out g e).1
            have HB8 := hidIt (below_app5 HB7.out hg8 (fun g e => by have := hOB g e; omega) (Nat.le_of_succ_le hsz7))
            have HX8 := hidIt ((hg8.block P (lt_of_block HX7.out) (fun e => by have := hOB _ e.symm; omega)).trans HX7.out)
            have HO8 : Hid (OwnI w8 (w.heap.size + 1) (.slice (some ⟨g8, 0, none⟩) (k + 1) c8) (zs ++ [1])) := OwnI.done HTL.out hown8
            rw [HE.out] at HFT
            clear hown8 hg8 hbl8 HO7 HB7 hsz7 HO2 HB2 hOB HX7
            go_wp2_with fail
            go_roundw
            case rel => exact ⟨k + 1, some ⟨g8, 0, none⟩, c8, by omega, (by first | rfl | trivial), by go_num, (by rw [HFT.out]; exact HO8.out), HX8.out, HB8.out⟩
            case measure => simp [intOf]; omega
    · obtain rfl : k = N := by omega
      have hkI : ¬ (k : Int) < (k : Int) := by omega
      go_wp2_with fail
      go_ret
      exact ⟨a5, c5, rfl, owns_mono HO.out (Nat.le_succ _), HB.out⟩
end Go.Proofs.Ytbahfcefplgigaa
