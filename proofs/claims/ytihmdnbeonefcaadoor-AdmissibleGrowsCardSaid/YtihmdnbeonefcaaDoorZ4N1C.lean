/- Is a list a set of nodes? The reference's and the program's answer. -/
import Derived.Test.YtihmdnbeonefcaaDoorZ4N1A
import Derived.Test.YtihmdnbeonefcaaDoorG0V
import Derived.Test.YtihmdnbeonefcaaDoorG1D

namespace Go.Proofs.YtihmdnbeonefcaaDoor
set_option linter.unusedVariables false
set_option linter.unusedSimpArgs false
open Go Go.RowKit Go.Sort

theorem asc_uniq13 : ∀ {l r : List Nat}, l.Pairwise (fun a b => a < b) → r.Pairwise (fun a b => a < b) → (∀ x, x ∈ l ↔ x ∈ r) → l = r := by
  intro l r hl hr h
  have n1 : l.Nodup := hl.imp fun h => Nat.ne_of_lt h
  have n2 : r.Nodup := hr.imp fun h => Nat.ne_of_lt h
  exact List.Perm.eq_of_pairwise (le := fun a b => a ≤ b) (fun a b _ _ h1 h2 => Nat.le_antisymm h1 h2) (hl.imp fun h => Nat.le_of_lt h) (hr.imp fun h => Nat.le_of_lt h) ((List.perm_ext_iff_of_nodup n1 n2).2 h)
/-- In range and ascending. -/
def SetU (N : Nat) (x : List Int) : Prop := (∀ z ∈ x, 0 ≤ z ∧ z < (N : Int)) ∧ x.Pairwise fun a b => a < b
theorem setL_up (N : Nat) (X : Nat → Bool) : SetU N (setL N X) := by
  refine ⟨fun z hz => ?_, ?_⟩
  · obtain ⟨i, hi, -, rfl⟩ := mem_setL.1 hz
    omega
  · unfold setL ints
    rw [List.pairwise_map]
    exact ((List.pairwise_lt_range (n := N)).sublist List.filter_sublist).imp fun h => Int.ofNat_lt.2 h
theorem setB_iff {N : Nat} {x : List Int} : setB N x = true ↔ SetU N x := by
  constructor
  · intro h
    rw [setB_eq h]
    exact setL_up N _
  · rintro ⟨h1, h2⟩
    have e1 : x = ints (x.map Int.toNat) := by
      unfold ints
      rw [List.map_map]
      conv => lhs; rw [← List.map_id x]
      refine List.map_congr_left fun z hz => ?_
      have := h1 z hz
      show z = Int.ofNat z.toNat
      rw [Int.ofNat_eq_natCast]
      omega
    have e2 : x.map Int.toNat = (List.range N).filter (memB x) := by
      refine asc_uniq13 ?_ ((List.pairwise_lt_range (n := N)).sublist List.filter_sublist) fun i => ?_
      · rw [List.pairwise_map]
        exact h2.imp_of_mem fun {a b} ha hb hab => by have := h1 a ha; have := h1 b hb; omega
      · rw [List.mem_map, List.mem_filter, List.mem_range]
        unfold memB
        rw [decide_eq_true_eq]
        constructor
        · rintro ⟨z, hz, rfl⟩
          have := h1 z hz
          exact ⟨by omega, by rw [show ((z.toNat : Nat) : Int) = z by omega]; exact hz⟩
        · rintro ⟨-, hm⟩
          exact ⟨_, hm, Int.toNat_natCast i⟩
    unfold setB
    rw [decide_eq_true_eq]
    conv => lhs; rw [e1, e2]
    rfl
theorem setU_step {N : Nat} {x : List Int} {k : Nat} (h : k < x.length) (hs : SetU N (x.take k)) (h0 : 0 ≤ x[k]) (h1 : x[k] < (N : Int)) (hp : ∀ j, k = j + 1 → (hj : j < x.length) → x[j] < x[k]) : SetU N (x.take (k + 1)) := by
  rw [List.take_succ_eq_append_getElem h]
  refine ⟨fun z hz => ?_, ?_⟩
  · rcases List.mem_append.1 hz with hz | hz
    · exact hs.1 z hz
    · rw [List.mem_singleton.1 hz]; exact ⟨h0, h1⟩
  · rw [List.pairwise_append]
    refine ⟨hs.2, List.pairwise_singleton _ _, fun a ha b hb => ?_⟩
    rw [List.mem_singleton.1 hb]
    obtain ⟨i, hi, rfl⟩ := List.getElem_of_mem ha
    rw [List.length_take] at hi
    obtain ⟨j, hj⟩ : ∃ j, k = j + 1 := ⟨k - 1, by omega⟩
    have hpj := hp j hj (by omega)
    rw [List.getElem_take]
    by_cases e : i = j
    · subst e; exact hpj
    · have := (List.pairwise_iff_getElem.1 hs.2) i j (by rw [List.length_take]; omega) (by rw [List.length_take]; omega) (by omega)
      rw [List.getElem_take, List.getElem_take] at this
      exact Int.lt_trans this hpj
theorem setB_bad {N : Nat} {x : List Int} {z : Int} (hz : z ∈ x) (h : z < 0 ∨ (N : Int) ≤ z) : setB N x = false := by
  rw [Bool.eq_false_iff]
  intro hs
  have := (setB_iff.1 hs).1 z hz
  omega
theorem setB_bad2 {N : Nat} {x : List Int} {j : Nat} (h1 : j + 1 < x.length) (h : x[j + 1] ≤ x[j]) : setB N x = false := by
  rw [Bool.eq_false_iff]
  intro hs
  have := (List.pairwise_iff_getElem.1 (setB_iff.1 hs).2) j (j + 1) (by omega) h1 (by omega)
  omega

set_option maxRecDepth 100000 in
set_option maxHeartbeats 2000000 in
theorem raValid_any (N : Nat) (v v2 : Value) (ps : List (Int × Int)) (x : List Int) (w : World) (h : PairsAt w v ps) (hs : IL w v2 x) (hsl : x.length ≤ 100000) :
    Calls Tryd.prog 15 #[.agg #[.int .i64 (N : Int), v], v2] w fun e w' => e = .returned (.bool (setB N x)) ∧ Below w.heap.size w w' := by
  have hB := bgrow w (.cells #[.int .i64 (N : Int), v] 27)
  obtain ⟨a, c, rfl, -⟩ := h.form
  obtain ⟨a2, c2, rfl, k2⟩ := (hs.below hB).ic
  have K2 := hidIt k2
  have HX := hidIt (heap_alloc_new w (.cells #[.int .i64 (N : Int), .slice a ps.length c] 27))
  have HB := hidIt hB
  clear h hs hB k2
  go_enter Tryd.func15, Tryd.ntmps15
  go_upto_region 1 with (fail)
  generalize (w.alloc (.cells #[.int .i64 (N : Int), .slice a ps.length c] 27)) = w1 at *
  generalize w.heap.size = P at HX ⊢
  obtain ⟨x0, x1⟩ := And.intro (cell_two0 HX.out) (cell_two1 HX.out)
  have lx := lt_of_block HX.out
  obtain ⟨M, hM⟩ : ∃ M, M = x.length := ⟨_, rfl⟩
  have HM := hidIt hM
  rw [← hM] at hsl ⊢
  clear hM
  go_wp2_with fail
  go_loopw [5] (fun i wr => ∃ k : Nat, k ≤ M ∧ i = .int .i64 k ∧ Hid (Below w1.heap.size w1 wr) ∧ Hid (SetU N (x.take k))) (fun i _ => M - (intOf i).toNat)
  case atStart => exact ⟨0, Nat.zero_le _, (by first | rfl | trivial), Below.refl _ _, (⟨fun z h => (by cases h), List.Pairwise.nil⟩ : SetU N [])⟩
  case round =>
    obtain ⟨k, hk, rfl, HBr, HT⟩ := hrel
    have hkI0 : (0 : Int) ≤ (k : Int) := by omega
    have HXr := hidIt (blk_kept2 HX.out HBr.out)
    have x0r := cell_two0 HXr.out
    have x1r := cell_two1 HXr.out
    have lxr := lt_of_block HXr.out
    have HBF := hidIt (HB.out.trans (Below.mono HBr.out HB.out.size))
    clear x0 x1 lx
    by_cases hlt : k < M
    · have hkI : (k : Int) < (M : Int) := by omega
      have h1x : k < x.length := by have := HM.out; omega
      obtain ⟨b1, o1, rfl, l1, hcs⟩ := (K2.out.go HBr.out).at_ h1x
      have p0 := hcs k h1x
      have HCS := hidIt hcs
      have HMM := hidIt (List.getElem_mem h1x)
      have HST : Hid (0 ≤ x[k] → x[k] < (N : Int) → (∀ j, k = j + 1 → (hj : j < x.length) → x[j] < x[k]) → SetU N (x.take (k + 1))) := fun h0 h1 hp => setU_step h1x HT.out h0 h1 hp
      have HBD : Hid (∀ j, k = j + 1 → (hj : j < x.length) → x[k] ≤ x[j] → setB N x = false) := fun j e hj h => by subst e; exact setB_bad2 h1x h
      clear hcs
      generalize hz : x[k] = z at *
      clear hz
      by_cases hz0 : z < 0
      · have HE : Hid (setB N x = false) := setB_bad HMM.out (.inl hz0)
        go_wp2_with fail
        go_quiet (fail)
        go_wp2_with fail
        go_ret
        exact ⟨ret_bool HE.out.symm, ⟨HBF.out.os, HBF.out.tape, HBF.out.output, HBF.out.size, HBF.out.block⟩⟩
      have hd1 : decide (z < 0) = false := decide_eq_false hz0
      by_cases hzN : (N : Int) ≤ z
      · have HE : Hid (setB N x = false) := setB_bad HMM.out (.inr hzN)
        have hd2 : decide ((N : Int) ≤ z) = true := decide_eq_true hzN
        go_wp2_with fail
        go_quiet (fail)
        go_wp2_with fail
        go_ret
        exact ⟨ret_bool HE.out.symm, ⟨HBF.out.os, HBF.out.tape, HBF.out.output, HBF.out.size, HBF.out.block⟩⟩
      have hd2 : decide ((N : Int) ≤ z) = false := decide_eq_false hzN
      by_cases hk0 : k = 0
      · have HE : Hid (SetU N (x.take (k + 1))) := HST.out (by omega) (by omega) (fun j e => by omega)
        have hd3 : decide ((0 : Int) < (k : Int)) = false := decide_eq_false (by omega)
        have hkn : ¬ 0 < k := by omega
        clear hk0
        go_wp2_with fail
        go_quiet (fail)
        go_wp2_with fail
        go_roundw
        case rel => exact ⟨k + 1, by omega, by go_num, ⟨HBr.out.os, HBr.out.tape, HBr.out.output, HBr.out.size, HBr.out.block⟩, HE.out⟩
        case measure => simp [intOf]; omega
      have hkp : (0 : Int) < (k : Int) := by omega
      have hkm : 0 ≤ (k : Int) - 1 := by omega
      have hkm2 : (k : Int) - 1 < (M : Int) := by omega
      have hwr : IntKind.i64.wrap ((k : Int) - 1) = ((k : Int) - 1) := IntWalk.i64_in _ (by omega)
      have hj : k - 1 < x.length := by omega
      have q0 := HCS.out (k - 1) hj
      have HSJ : Hid (x[k - 1] < z → SetU N (x.take (k + 1))) := fun h => HST.out (by omega) (by omega) (fun j e hj' => by
        obtain rfl : j = k - 1 := by omega
        exact h)
      have HBJ : Hid (z ≤ x[k - 1] → setB N x = false) := fun h => HBD.out (k - 1) (by omega) hj h
      generalize x[k - 1] = y at *
      have hk1 : 1 ≤ k := by omega
      have hkpn : 0 < k := by omega
      have hd3 : decide ((0 : Int) < (k : Int)) = true := decide_eq_true hkp
      clear hk0 hj
      by_cases hzy : z ≤ y
      · have HE := hidIt (HBJ.out hzy)
        have hd4 : decide (z ≤ y) = true := decide_eq_true hzy
        go_wp2_with fail
        go_quiet (fail)
        go_wp2_with fail
        go_ret
        exact ⟨ret_bool HE.out.symm, ⟨HBF.out.os, HBF.out.tape, HBF.out.output, HBF.out.size, HBF.out.block⟩⟩
      · have HE := hidIt (HSJ.out (by omega))
        have hd4 : decide (z ≤ y) = false := decide_eq_false hzy
        go_wp2_with fail
        go_quiet (fail)
        go_wp2_with fail
        go_roundw
        case rel => exact ⟨k + 1, by omega, by go_num, ⟨HBr.out.os, HBr.out.tape, HBr.out.output, HBr.out.size, HBr.out.block⟩, HE.out⟩
        case measure => simp [intOf]; omega
    · have hkI : ¬ (k : Int) < (M : Int) := by omega
      have HE : Hid (setB N x = true) := by
        have := HT.out
        rw [List.take_of_length_le (by have := HM.out; omega)] at this
        exact setB_iff.2 this
      go_wp2_with fail
      go_ret
      exact ⟨ret_bool HE.out.symm, HBF.out⟩
theorem qIsNode_any (n i : Int) (v : Value) (hv : ∃ a l c, v = .slice a l c) (w : World) : Calls Tryd.prog 46 #[.agg #[.int .i64 n, v], .int .i64 i] w fun e w' => e = .returned (.bool (ixB i n)) ∧ Below w.heap.size w w' := by
  obtain ⟨a, l, c, rfl⟩ := hv
  unfold ixB
  have HX := hidIt (heap_alloc_new w (.cells #[.int .i64 n, .slice a l c] 27))
  have HB := hidIt (bgrow w (.cells #[.int .i64 n, .slice a l c] 27))
  obtain x0 := cell_two0 HX.out
  have lx := lt_of_block HX.out
  by_cases h1 : 0 ≤ i <;> by_cases h2 : i < n
  all_goals (
    go_enter Tryd.func46, Tryd.ntmps46
    go_wp2_with fail
    go_ret
    exact ⟨ret_bool (by simp [h1, h2]), HB.out⟩)

set_option maxRecDepth 100000 in
set_option maxHeartbeats 2000000 in
theorem qValid_any (N : Nat) (v v2 : Value) (ps : List (Int × Int)) (x : List Int) (w : World) (h : PairsAt w v ps) (hok : GOk (N : Int) ps) (hpl : ps.length ≤ 1000000) (hs : IL w v2 x) (hsl : x.length ≤ 100000) :
    Calls Tryd.prog 14 #[.agg #[.int .i64 (N : Int), v], v2] w fun e w' => e = .returned (.bool (setB N x)) ∧ Below w.heap.size w w' := by
  have hB := bgrow w (.cells #[.int .i64 (N : Int), v] 27)
  have H1 := hidIt (h.below hB)
  obtain ⟨a, c, rfl, -⟩ := h.form
  obtain ⟨a2, c2, rfl, k2⟩ := (hs.below hB).ic
  have K2 := hidIt k2
  have HX := hidIt (heap_alloc_new w (.cells #[.int .i64 (N : Int), .slice a ps.length c] 27))
  have HB := hidIt hB
  have HVE := hidIt (valE_of hok)
  have HPL := hidIt hpl
  clear h hs hB k2 hok hpl
  go_enter Tryd.func14, Tryd.ntmps14
  go_upto_region 1 with (fail)
  generalize (w.alloc (.cells #[.int .i64 (N : Int), .slice a ps.length c] 27)) = w1 at *
  generalize w.heap.size = P at HX ⊢
  obtain ⟨x0, x1⟩ := And.intro (cell_two0 HX.out) (cell_two1 HX.out)
  have lx := lt_of_block HX.out
  obtain ⟨M, hM⟩ : ∃ M, M = x.length := ⟨_, rfl⟩
  have HM := hidIt hM
  rw [← hM] at hsl ⊢
  clear hM
  go_wp2_with fail
  go_loopw [5, 6, 9] (fun _ _ i wr => ∃ k : Nat, k ≤ M ∧ i = .int .i64 k ∧ Hid (Below w1.heap.size w1 wr) ∧ Hid (SetU N (x.take k))) (fun _ _ i _ => M - (intOf i).toNat)
  case atStart => exact ⟨0, Nat.zero_le _, (by first | rfl | trivial), Below.refl _ _, (⟨fun z h => (by cases h), List.Pairwise.nil⟩ : SetU N [])⟩
  case round =>
    obtain ⟨k, hk, rfl, HBr, HT⟩ := hrel
    have hkI0 : (0 : Int) ≤ (k : Int) := by omega
    have HXr := hidIt (blk_kept2 HX.out HBr.out)
    have x0r := cell_two0 HXr.out
    have x1r := cell_two1 HXr.out
    have lxr := lt_of_block HXr.out
    clear x0 x1 lx
    by_cases hlt : k < M
    · have hkI : (k : Int) < (M : Int) := by omega
      have h1x : k < x.length := by have := HM.out; omega
      obtain ⟨b1, o1, rfl, l1, hcs⟩ := (K2.out.go HBr.out).at_ h1x
      have p0 := hcs k h1x
      have HMM := hidIt (List.getElem_mem h1x)
      have HST : Hid (0 ≤ x[k] → x[k] < (N : Int) → (∀ j, k = j + 1 → (hj : j < x.length) → x[j] < x[k]) → SetU N (x.take (k + 1))) := fun h0 h1 hp => setU_step h1x HT.out h0 h1 hp
      have HBD : Hid (∀ j, k = j + 1 → (hj : j < x.length) → x[k] ≤ x[j] → setB N x = false) := fun j e hj h => by subst e; exact setB_bad2 h1x h
      clear hcs
      generalize hz : x[k] = z at *
      clear hz h1x
      cases hix : ixB z (N : Int)
      · have HE : Hid (setB N x = false) := setB_bad HMM.out (by rcases ixB_false hix with h | h <;> omega)
        have HIX := hidIt hix
        clear hix
        go_wp2_with fail
        refine (qIsNode_any (N : Int) z _ ⟨_, _, _, rfl⟩ _).mono ?_
        rw [HIX.out]
        rintro e w3 ⟨rfl, hb3⟩
        have HB3 := hidIt (HBr.out.trans (Below.mono hb3 HBr.out.size))
        clear hb3
        go_wp2_with fail
        go_ret
        exact ⟨ret_bool HE.out.symm, HB.out.trans (Below.mono HB3.out HB.out.size)⟩
      obtain ⟨hz0, hzN⟩ := ixB_true hix
      have HIX := hidIt hix
      clear hix
      by_cases hk0 : k = 0
      · have HE : Hid (SetU N (x.take (k + 1))) := HST.out hz0 hzN (fun j e => by omega)
        have hd3 : decide ((0 : Int) < (k : Int)) = false := decide_eq_false (by omega)
        have hkn : ¬ 0 < k := by omega
        have hkn2 : ¬ (0 : Int) < (k : Int) := by omega
        clear hk0
        go_wp2_with fail
        refine (qIsNode_any (N : Int) z _ ⟨_, _, _, rfl⟩ _).mono ?_
        rw [HIX.out]
        rintro e w3 ⟨rfl, hb3⟩
        have HB3 := hidIt (HBr.out.trans (Below.mono hb3 HBr.out.size))
        clear hb3
        go_wp2_with fail
        go_roundw
        case rel => exact ⟨k + 1, by omega, by go_num, HB3.out, HE.out⟩
        case measure => simp [intOf]; omega
      have hkp : (0 : Int) < (k : Int) := by omega
      have hkm : 0 ≤ (k : Int) - 1 := by omega
      have hkm2 : (k : Int) - 1 < (M : Int) := by omega
      have hwr : IntKind.i64.wrap ((k : Int) - 1) = ((k : Int) - 1) := IntWalk.i64_in _ (by omega)
      have hj : k - 1 < x.length := by have := HM.out; omega
      have HSJ : Hid (x[k - 1] < z → SetU N (x.take (k + 1))) := fun h => HST.out hz0 hzN (fun j e hj' => by
        obtain rfl : j = k - 1 := by omega
        exact h)
      have HBJ : Hid (z ≤ x[k - 1] → setB N x = false) := fun h => HBD.out (k - 1) (by omega) hj h
      have HQ : Hid (∀ w3 : World, Below w1.heap.size w1 w3 → w3.cell? ⟨b1, o1 + (k - 1), none⟩ = some (.int .i64 x[k - 1])) := fun w3 h => by
        obtain ⟨b', o', he, -, hc⟩ := (K2.out.go h).at_ hj
        injection he with he
        injection he with he1 he2
        subst he1 he2
        exact hc (k - 1) hj
      generalize x[k - 1] = y at *
      have hk1 : 1 ≤ k := by omega
      have hkpn : 0 < k := by omega
      have hd3 : decide ((0 : Int) < (k : Int)) = true := decide_eq_true hkp
      clear hk0 hj
      go_wp2_with fail
      refine (qIsNode_any (N : Int) z _ ⟨_, _, _, rfl⟩ _).mono ?_
      rw [HIX.out]
      rintro e w3 ⟨rfl, hb3⟩
      have HB3 := hidIt (HBr.out.trans (Below.mono hb3 HBr.out.size))
      have q0 := HQ.out w3 HB3.out
      have l3 := Nat.lt_of_lt_of_le l1 hb3.size
      clear hb3
      by_cases hzy : z ≤ y
      · have HE := hidIt (HBJ.out hzy)
        have hd4 : decide (z ≤ y) = true := decide_eq_true hzy
        go_wp2_with fail
        go_ret
        exact ⟨ret_bool HE.out.symm, HB.out.trans (Below.mono HB3.out HB.out.size)⟩
      · have HE := hidIt (HSJ.out (by omega))
        have hd4 : decide (z ≤ y) = false := decide_eq_false hzy
        go_wp2_with fail
        go_roundw
        case rel => exact ⟨k + 1, by omega, by go_num, HB3.out, HE.out⟩
        case measure => simp [intOf]; omega
    · have hkI : ¬ (k : Int) < (M : Int) := by omega
      have HE : Hid (setB N x = true) := by
        have := HT.out
        rw [List.take_of_length_le (by have := HM.out; omega)] at this
        exact setB_iff.2 this
      go_wp2_with fail
      refine (gValidate_any (N : Int) _ ps _ (H1.out.below HBr.out) HPL.out).mono ?_
      rw [HVE.out]
      rintro e w3 ⟨rfl, hb3⟩
      have HBF := hidIt (HB.out.trans (Below.mono (HBr.out.trans (Below.mono hb3 HBr.out.size)) HB.out.size))
      clear hb3
      go_wp2_with fail
      go_ret
      exact ⟨ret_bool HE.out.symm, HBF.out⟩
end Go.Proofs.YtihmdnbeonefcaaDoor
