/- Rows of ints that a call makes; Meet: the program's and the reference's; the reference's Compare. -/
import Derived.Test.YtbahfcefplgigaaL1C
import Derived.Test.YtbahfcefplgigaaL1A
namespace Go.Proofs.Ytbahfcefplgigaa
set_option linter.unusedVariables false
set_option linter.unusedSimpArgs false
open Go Go.RowKit Go.Sort

/-- A block that holds a row of ints. -/
def IR (w : World) (b : Nat) (zs : List Int) : Prop := w.heap[b]? = some (.cells (intRow zs) 3 (0, 0))
theorem intRow_size (zs : List Int) : (intRow zs).size = zs.length := by simp [intRow]
theorem intRow_set (zs : List Int) (i : Nat) (z : Int) : (intRow zs).setIfInBounds i (.int .i64 z) = intRow (zs.set i z) := by
  unfold intRow
  rw [List.map_set]
  simp
theorem IR.cell {w : World} {b : Nat} {zs : List Int} (h : IR w b zs) {i : Nat} (hi : i < zs.length) : w.cell? ⟨b, i, none⟩ = some (.int .i64 zs[i]) := int_cell h i hi
theorem IR.ex {w : World} {b : Nat} {zs : List Int} (h : IR w b zs) {i : Nat} (hi : i < zs.length) : ∃ z, w.cell? ⟨b, i, none⟩ = some (.int .i64 z) := ⟨_, h.cell hi⟩
theorem IR.free {w : World} {b : Nat} {zs : List Int} (h : IR w b zs) (i : Nat) : w.frozen? ⟨b, i, none⟩ = false := free_any h i
theorem IR.set {w : World} {b : Nat} {zs : List Int} (h : IR w b zs) (i : Nat) (z : Int) : IR (w.setCell ⟨b, i, none⟩ (.int .i64 z)) b (zs.set i z) := by
  unfold IR
  rw [set_cells h, intRow_set]
theorem IR.go {w w' : World} {b : Nat} {zs : List Int} (h : IR w b zs) (hb : Below w.heap.size w w') : IR w' b zs := blk_kept2 h hb
theorem IR.lt {w : World} {b : Nat} {zs : List Int} (h : IR w b zs) : b < w.heap.size := lt_of_block h
theorem IR.il {w : World} {b : Nat} {zs : List Int} (h : IR w b zs) {c : Nat} (hc : zs.length ≤ c) (hm : c ≤ maxLen) : IL w (.slice (some ⟨b, 0, none⟩) zs.length c) zs :=
  .inr ⟨b, 0, c, rfl, hc, hm, h.lt, fun i hi => by rw [Nat.zero_add]; exact h.cell hi⟩
theorem made_ints (n : Nat) : madeCells #[.int .i64 0] n = intRow (List.replicate n 0) := by
  apply Array.ext_getElem?
  intro i
  by_cases h : i < n
  · have h2 : (intRow (List.replicate n 0))[i]? = some (.int .i64 0) := by simp [intRow, h]
    rw [h2]
    unfold madeCells
    simp [h]
    rw [show i % 1 = 0 from Nat.mod_one i]
    rfl
  · have h1 : (intRow (List.replicate n 0))[i]? = none := Array.getElem?_eq_none (by rw [intRow_size, List.length_replicate]; omega)
    rw [h1]
    unfold madeCells
    simp
    omega
theorem make_ints (n : Nat) (hn : n ≤ 1000000) (w : World) : (Instr.makeSlice 22 (.int .i64 (n : Int)) (.int .i64 (n : Int))).run Try.prog w = .ok (.slice (some ⟨w.heap.size, 0, none⟩) n n) (w.alloc (.cells (intRow (List.replicate n 0)) 3)) := by
  obtain ⟨i0, hi, hz0, hz1, hz2⟩ := info_parts infoI9
  have hr := run_make (P := Try.prog) w 22 3 i0 _ Try.underlying22 hi hz0 .i64 .i64 (n : Int) (n : Int) (by omega) (by omega) (by rw [hz2]; omega) (by omega)
  rw [hz1] at hr
  simp only [Int.toNat_natCast, Nat.mul_one] at hr
  rw [← made_ints]
  exact hr

/-- What Meet's row holds before round k. -/
def meetAt (xs ys : List Int) (n k : Nat) : List Int := (meetF xs ys).take k ++ List.replicate (n - k) 0
theorem meetAt_len {xs ys : List Int} {n k : Nat} (hn : n = min xs.length ys.length) (hk : k ≤ n) : (meetAt xs ys n k).length = n := by
  unfold meetAt
  rw [List.length_append, List.length_take, meetF_len, List.length_replicate]
  omega
theorem meetAt_set {xs ys : List Int} {n k : Nat} (hn : n = min xs.length ys.length) (hk : k < n) (v : Int) : (meetAt xs ys n k).set k v = (meetF xs ys).take k ++ v :: List.replicate (n - (k + 1)) 0 := by
  unfold meetAt
  have hl : ((meetF xs ys).take k).length = k := by rw [List.length_take, meetF_len]; omega
  rw [List.set_append_right (h := by omega), hl, Nat.sub_self, show n - k = n - (k + 1) + 1 by omega, List.replicate_succ]
  rfl
theorem meetAt_step {xs ys : List Int} {n k : Nat} (hn : n = min xs.length ys.length) (hk : k < n) (h1 : k < xs.length) (h2 : k < ys.length) : meetAt xs ys n (k + 1) = (meetAt xs ys n k).set k (if xs[k] = ys[k] then xs[k] else 3) := by
  rw [meetAt_set hn hk]
  unfold meetAt
  rw [meetF_take h1 h2, List.append_assoc]
  rfl
theorem meetAt_end {xs ys : List Int} {n : Nat} (hn : n = min xs.length ys.length) : meetAt xs ys n n = meetF xs ys := by
  unfold meetAt
  rw [List.take_of_length_le (by rw [meetF_len]; omega), Nat.sub_self]
  simp

set_option maxRecDepth 100000 in
set_option maxHeartbeats 2000000 in
theorem lMeet_any (v1 v2 : Value) (xs ys : List Int) (w : World) (h1 : IL w v1 xs) (h2 : IL w v2 ys) (hn : xs.length ≤ 100000) (hm : ys.length ≤ 100000) :
    Calls Try.prog 29 #[v1, v2] w fun e w' => ∃ (b : Nat), e = .returned (.slice (some ⟨b, 0, none⟩) (min xs.length ys.length) (min xs.length ys.length)) ∧ w.heap.size ≤ b ∧ IR w' b (meetF xs ys) ∧ Below w.heap.size w w' := by
  obtain ⟨a1, c1, rfl, k1⟩ := h1.ic
  obtain ⟨a2, c2, rfl, k2⟩ := h2.ic
  have K1 := hidIt k1
  have K2 := hidIt k2
  clear k1 k2 h1 h2
  obtain ⟨n, hnn⟩ : ∃ n, n = min xs.length ys.length := ⟨_, rfl⟩
  have HN := hidIt hnn
  rw [← hnn]
  have hn2 : n ≤ 100000 := by omega
  have HM : Hid (min (xs.length : Int) (ys.length : Int) = (n : Int)) := by show _ = _; omega
  clear hnn
  obtain ⟨L, hL⟩ : ∃ L, L = ys.length := ⟨_, rfl⟩
  have HY := hidIt hL
  rw [← hL] at hm HM ⊢
  obtain ⟨M, hM⟩ : ∃ M, M = xs.length := ⟨_, rfl⟩
  have HX := hidIt hM
  rw [← hM] at hn HM ⊢
  clear hL hM
  have hmin := HM.out
  have hmk := fun w => make_ints n (by omega) w
  have HR0 : Hid (IR (w.alloc (.cells (intRow (List.replicate n 0)) 3)) w.heap.size (meetAt xs ys n 0)) := by
    show IR _ _ _
    unfold meetAt
    exact heap_alloc_new w _
  have HB0 := hidIt (bgrow w (.cells (intRow (List.replicate n 0)) 3))
  go_enter Try.func29, Try.ntmps29
  go_upto_region 2 with (fail)
  clear hmk hmin
  generalize (w.alloc (.cells (intRow (List.replicate n 0)) 3)) = w1 at *
  obtain ⟨P, hP⟩ : ∃ P, P = w.heap.size := ⟨_, rfl⟩
  have HP := hidIt hP
  rw [← hP] at HR0 ⊢
  clear hP
  go_wp2_with fail
  go_loopw [6, 15] (fun _ i wr => ∃ k : Nat, k ≤ n ∧ i = .int .i64 k ∧ Hid (IR wr P (meetAt xs ys n k)) ∧ Hid (Below w.heap.size w wr)) (fun _ i _ => n - (intOf i).toNat)
  case atStart => exact ⟨0, Nat.zero_le _, (by first | rfl | trivial), HR0.out, HB0.out⟩
  case round =>
    clear HR0 HB0
    obtain ⟨k, hk, rfl, HR, HB⟩ := hrel
    have hkI0 : (0 : Int) ≤ (k : Int) := by omega
    by_cases hlt : k < n
    · have hkI : (k : Int) < (n : Int) := by omega
      have hn' := HN.out
      have hX := HX.out
      have hY := HY.out
      have hM' := HM.out
      have hkM : (k : Int) < (M : Int) := by omega
      have hkL : (k : Int) < (L : Int) := by omega
      have h1x : k < xs.length := by omega
      have h1y : k < ys.length := by omega
      have hlen := meetAt_len (xs := xs) (ys := ys) hn' hk
      obtain ⟨z0, hcP⟩ := HR.out.ex (i := k) (by omega)
      have hfP := HR.out.free k
      have hlP := HR.out.lt
      have HR3 := hidIt (HR.out.set k 3)
      have HB3 : Hid (Below w.heap.size w (wr.setCell ⟨P, k, none⟩ (.int .i64 3))) := below_set5 HB.out (Nat.le_of_eq HP.out.symm)
      have HST := hidIt (meetAt_step (xs := xs) (ys := ys) hn' hlt h1x h1y)
      clear hn' hX hY hM' hlen
      go_upto_region 6 with (fail)
      generalize (wr.setCell ⟨P, k, none⟩ (.int .i64 3)) = w3 at *
      clear hcP hfP hlP
      obtain ⟨b1, o1, rfl, l1, hc1⟩ := (K1.out.go HB3.out).at_ h1x
      obtain ⟨b2, o2, rfl, l2, hc2⟩ := (K2.out.go HB3.out).at_ h1y
      have p0 := hc1 k h1x
      have q0 := hc2 k h1y
      clear hc1 hc2
      generalize xs[k] = x at *
      generalize ys[k] = y at *
      have hlen3 : ((meetAt xs ys n k).set k 3).length = n := by rw [List.length_set]; exact meetAt_len HN.out hk
      obtain ⟨z3, hcP⟩ := HR3.out.ex (i := k) (by omega)
      have hfP := HR3.out.free k
      have hlP := HR3.out.lt
      clear hlen3
      clear h1x h1y
      by_cases he : x = y
      · have hb : (x == y) = true := beq_iff_eq.2 he
        have HE : Hid (IR (w3.setCell ⟨P, k, none⟩ (.int .i64 x)) P (meetAt xs ys n (k + 1))) := by
          have := HR3.out.set k x
          rw [List.set_set] at this
          show IR _ _ _
          rw [HST.out, if_pos he]
          exact this
        have HB4 : Hid (Below w.heap.size w (w3.setCell ⟨P, k, none⟩ (.int .i64 x))) := below_set5 HB3.out (Nat.le_of_eq HP.out.symm)
        clear he HST
        go_quiet (fail)
        go_wp2_with fail
        go_roundw
        case rel => exact ⟨k + 1, by omega, by go_num, HE.out, ⟨HB4.out.os, HB4.out.tape, HB4.out.output, HB4.out.size, HB4.out.block⟩⟩
        case measure => simp [intOf]; omega
      · have hb : (x == y) = false := beq_eq_false_iff_ne.2 he
        have HE : Hid (IR w3 P (meetAt xs ys n (k + 1))) := by
          show IR _ _ _
          rw [HST.out, if_neg he]
          exact HR3.out
        clear he HST
        go_quiet (fail)
        go_wp2_with fail
        go_roundw
        case rel => exact ⟨k + 1, by omega, by go_num, HE.out, ⟨HB3.out.os, HB3.out.tape, HB3.out.output, HB3.out.size, HB3.out.block⟩⟩
        case measure => simp [intOf]; omega
    · obtain rfl : k = n := by omega
      have hkI : ¬ (k : Int) < (k : Int) := by omega
      have HE : Hid (IR wr P (meetF xs ys)) := by
        have := HR.out
        rwa [meetAt_end HN.out] at this
      go_wp2_with fail
      go_ret
      exact ⟨P, rfl, Nat.le_of_eq HP.out.symm, HE.out, HB.out⟩

set_option maxRecDepth 100000 in
set_option maxHeartbeats 1000000 in
theorem rlCompare_any (v1 v2 : Value) (xs ys : List Int) (w : World) (h1 : IL w v1 xs) (h2 : IL w v2 ys) (hn : xs.length ≤ 1000000) (hm : ys.length ≤ 1000000) :
    Calls Try.prog 31 #[v1, v2] w fun e w' => e = .returned (.int .i64 (cmpF xs ys)) ∧ Below w.heap.size w w' := by
  obtain ⟨a1, c1, rfl, k1⟩ := h1.form
  obtain ⟨a2, c2, rfl, k2⟩ := h2.form
  have K1 := hidIt k1
  have K2 := hidIt k2
  clear k1 k2 h1 h2
  have HV : Hid (cmpF xs ys = cmpF (xs.drop 0) (ys.drop 0)) := (rfl : _ = _)
  generalize cmpF xs ys = V at *
  obtain ⟨L, hL⟩ : ∃ L, L = ys.length := ⟨_, rfl⟩
  have HY := hidIt hL
  rw [← hL] at hm ⊢
  obtain ⟨M, hM⟩ : ∃ M, M = xs.length := ⟨_, rfl⟩
  have HX := hidIt hM
  rw [← hM] at hn ⊢
  clear hL hM
  go_enter Try.func31, Try.ntmps31
  go_wp2_with fail
  go_loopw [5] (fun i wr => ∃ k m : Nat, k ≤ M ∧ k ≤ L ∧ i = .int .i64 k ∧ wr = w.drewN m ∧ Hid (V = cmpF (xs.drop k) (ys.drop k))) (fun i _ => M - (intOf i).toNat)
  case atStart => exact ⟨0, 0, Nat.zero_le _, Nat.zero_le _, (by first | rfl | trivial), rfl, HV.out⟩
  case round =>
    clear HV
    obtain ⟨k, m, hk, hkl, rfl, rfl, HT⟩ := hrel
    have hkI0 : (0 : Int) ≤ (k : Int) := by omega
    by_cases hlt : k < M
    · have hkI : (k : Int) < (M : Int) := by omega
      have h1x : k < xs.length := by rw [← HX.out]; exact hlt
      by_cases hle : k < L
      rotate_left
      · obtain rfl : k = L := by omega
        have HE : Hid (V = 1) := HT.out.trans (cmpF_end2 h1x HY.out)
        clear h1x HT
        have hkI2 : ¬ (k : Int) < (k : Int) := by omega
        have hkI3 : ¬ (M : Int) < (k : Int) := by omega
        go_wp2_with fail
        go_ret
        exact ⟨ret_int HE.out.symm, ⟨rfl, rfl, rfl, Nat.le_refl _, fun _ _ => rfl⟩⟩
      have hkL : (k : Int) < (L : Int) := by omega
      have h1y : k < ys.length := by rw [← HY.out]; exact hle
      obtain ⟨b1, o1, rfl, l1, p0⟩ := K1.out k h1x
      obtain ⟨b2, o2, rfl, l2, q0⟩ := K2.out k h1y
      have HS := hidIt (HT.out.trans (cmpF_step h1x h1y))
      generalize xs[k] = x at *
      generalize ys[k] = y at *
      clear h1x h1y HT
      by_cases hlt1 : x < y
      · have HE : Hid (V = -1) := by show _ = _; rw [HS.out, if_pos hlt1]
        clear HS
        go_wp2_with fail
        go_quiet (fail)
        go_wp2_with fail
        go_ret
        exact ⟨ret_int HE.out.symm, ⟨rfl, rfl, rfl, Nat.le_refl _, fun _ _ => rfl⟩⟩
      · have hd1 : decide (x < y) = false := decide_eq_false hlt1
        by_cases hlt2 : y < x
        · have HE : Hid (V = 1) := by show _ = _; rw [HS.out, if_neg hlt1, if_pos hlt2]
          clear HS
          go_wp2_with fail
          go_quiet (fail)
          go_wp2_with fail
          go_quiet (fail)
          go_wp2_with fail
          go_ret
          exact ⟨ret_int HE.out.symm, ⟨rfl, rfl, rfl, Nat.le_refl _, fun _ _ => rfl⟩⟩
        · have HE : Hid (V = cmpF (xs.drop (k + 1)) (ys.drop (k + 1))) := by show _ = _; rw [HS.out, if_neg hlt1, if_neg hlt2]
          have hd2 : decide (y < x) = false := decide_eq_false hlt2
          clear HS
          go_wp2_with fail
          go_quiet (fail)
          go_wp2_with fail
          go_quiet (fail)
          go_wp2_with fail
          go_roundw
          case rel => exact ⟨k + 1, _, by omega, by omega, by go_num, (by first | rfl | (rw [World.drewN_drewN, World.drewN_drewN])), HE.out⟩
          case measure => simp [intOf]; omega
    · obtain rfl : k = M := by omega
      have hkI : ¬ (k : Int) < (k : Int) := by omega
      by_cases hle : k < L
      · have hkL : (k : Int) < (L : Int) := by omega
        have HE : Hid (V = -1) := HT.out.trans (cmpF_end1 HX.out (by rw [← HY.out]; exact hle))
        go_wp2_with fail
        go_ret
        exact ⟨ret_int HE.out.symm, ⟨rfl, rfl, rfl, Nat.le_refl _, fun _ _ => rfl⟩⟩
      · obtain rfl : k = L := by omega
        have HE : Hid (V = 0) := HT.out.trans (cmpF_end3 HX.out HY.out)
        go_wp2_with fail
        go_ret
        exact ⟨ret_int HE.out.symm, ⟨rfl, rfl, rfl, Nat.le_refl _, fun _ _ => rfl⟩⟩
end Go.Proofs.Ytbahfcefplgigaa
