/- slices.Repeat of one number. -/
import Derived.Test.YtghnojmaciljoaaL1E
import Derived.Laws.CopyOwn
import Derived.Deep.RegionLaw
namespace Go.Proofs.Ytghnojmaciljoaa
set_option linter.unusedVariables false
set_option linter.unusedSimpArgs false
open Go Go.RowKit Go.Sort

theorem intRow_arr (zs : List Int) : intRow zs = (zs.map (Value.int .i64)).toArray := rfl
theorem rep_splice (z : Int) {N m c : Nat} (h : m + c ≤ N) : splice ((List.replicate m z ++ List.replicate (N - m) 0).map (Value.int .i64)) m (List.replicate c (.int .i64 z)) = (List.replicate (m + c) z ++ List.replicate (N - (m + c)) 0).map (Value.int .i64) := by
  unfold splice
  rw [List.map_append, List.map_append, List.map_replicate, List.map_replicate, List.map_replicate, List.map_replicate]
  rw [List.take_append_of_le_length (by simp), List.take_of_length_le (by simp), List.drop_append, List.drop_of_length_le (by simp), List.nil_append, List.drop_replicate, List.length_replicate, ← List.append_assoc, List.replicate_append_replicate]
  congr 2
  simp only [List.length_replicate]
  omega
theorem oneI (c : Nat) (z : Int) : ∀ v ∈ List.replicate c (Value.int .i64 z), v.oneCell' = true := by
  intro v hv
  rw [List.eq_of_mem_replicate hv]
  rfl

theorem add_plain9 (b off i : Nat) : (⟨b, off, none⟩ : Addr).add i = ⟨b, off + i, none⟩ := by unfold Addr.add; split <;> simp_all
theorem elemI1 : (Try.prog.info? 3).map (·.size) = some 1 := by kernel_rfl
set_option maxRecDepth 100000 in
set_option maxHeartbeats 400000 in
theorem slRepeatI_any (b0 o0 c0 : Nat) (z : Int) (N : Nat) (hN : N ≤ 1000) (w : World) (hc : w.cell? ⟨b0, o0, none⟩ = some (.int .i64 z)) (hb : b0 < w.heap.size) :
    Calls Try.prog 37 #[.slice (some ⟨b0, o0, none⟩) 1 c0, .int .i64 (N : Int)] w fun e w' => ∃ b : Nat, e = .returned (.slice (some ⟨b, 0, none⟩) N N) ∧ w.heap.size ≤ b ∧ IR w' b (List.replicate N z) ∧ Below w.heap.size w w' := by
  have hn0 : ¬ (N : Int) < 0 := by omega
  have hwu : IntKind.u64.wrap (N : Int) = (N : Int) := IntWalk.u64_in _ (by omega)
  have hwi : IntKind.i64.wrap (N : Int) = (N : Int) := IntWalk.i64_in _ (by omega)
  have hmk := fun w => make_ints N (by omega) w
  have e1 : 1 * N / 18446744073709551616 = 0 := by omega
  have e2 : 1 * N % 18446744073709551616 = N := by omega
  have E1 := hidIt e1
  have E2 := hidIt e2
  have HC := hidIt hc
  clear e1 e2 hc
  go_enter Try.func37, Try.ntmps37
  go_wp2_with fail
  refine (Try.bits_Mul 1 N (by decide) (by omega) _).mono ?_
  rw [E1.out, E2.out]
  rintro e w' ⟨rfl, rfl⟩
  have hN2 : ¬ (9223372036854775807 : Int) < (N : Int) := by omega
  have HR0 : Hid (IR (w'.alloc (.cells (intRow (List.replicate N 0)) 3)) w'.heap.size (List.replicate 0 z ++ List.replicate (N - 0) 0)) := heap_alloc_new w' _
  have HB0 := hidIt (bgrow w' (.cells (intRow (List.replicate N 0)) 3))
  have HC0 : Hid ((w'.alloc (.cells (intRow (List.replicate N 0)) 3)).cell? ⟨b0, o0, none⟩ = some (.int .i64 z)) := (Below.cell (p := ⟨b0, o0, none⟩) HB0.out hb).trans HC.out
  go_upto_region 7 with (fail)
  clear hmk
  generalize (w'.alloc (.cells (intRow (List.replicate N 0)) 3)) = w1 at *
  obtain ⟨P, hP⟩ : ∃ P, P = w'.heap.size := ⟨_, rfl⟩
  have HP := hidIt hP
  rw [← hP] at HR0 ⊢
  clear hP
  by_cases hz : N = 0
  · subst hz
    go_wp2_with (with_reducible refine wpList_copy_nothing rfl (.tmp 31) (.tmp 32) 22 22 rfl 3 Try.underlying22 elemI1 _ _ _ _ _ _ rfl rfl (by decide) ?_)
    go_loopw [8] (fun v8 wr => v8 = .int .i64 0 ∧ wr = w1) (fun _ _ => 0)
    case atStart => exact ⟨(by first | rfl | trivial), (by first | rfl | trivial)⟩
    case round =>
      obtain ⟨rfl, rfl⟩ := hrel
      go_wp2_with fail
      go_ret
      exact ⟨P, rfl, Nat.le_of_eq HP.out.symm, HR0.out, HB0.out⟩
  · have hN1 : 1 ≤ N := by omega
    have HBP : Hid (w'.heap.size ≤ P) := Nat.le_of_eq HP.out.symm
    have HCN : Hid ((List.replicate 1 (Value.int .i64 z)).length = Nat.min 1 N) := by show 1 = min 1 N; omega
    have HPO : Hid (0 < (List.replicate 1 (Value.int .i64 z)).length → (some ⟨P, 0, none⟩ : Option Addr) = some ⟨P, 0, none⟩ ∧ ∃ ad, (some ⟨b0, o0, none⟩ : Option Addr) = some ad ∧ ∀ j v, (List.replicate 1 (Value.int .i64 z))[j]? = some v → w1.cell? (ad.add j) = some v) := fun _ => ⟨rfl, ⟨b0, o0, none⟩, rfl, fun j v hj => by
      have h1 := (List.getElem?_eq_some_iff.1 hj).1
      simp at h1
      subst h1
      obtain rfl : Value.int .i64 z = v := by simpa using hj
      rw [add_plain9, Nat.add_zero]
      exact HC0.out⟩
    have HFI : Hid (0 + (List.replicate 1 (Value.int .i64 z)).length ≤ ((List.replicate 0 z ++ List.replicate (N - 0) 0).map (Value.int .i64)).length) := by show _ ≤ _; simp; omega
    have HG0 : Hid (w1.heap[P]? = some (.cells ((List.replicate 0 z ++ List.replicate (N - 0) 0).map (Value.int .i64)).toArray 3 (0, 0))) := HR0.out
    go_wp2_with (with_reducible refine wpList_copy_splice rfl (.tmp 31) (.tmp 32) 22 22 rfl 3 Try.underlying22 elemI1 _ _ _ _ _ _ rfl rfl P 0 ((List.replicate 0 z ++ List.replicate (N - 0) 0).map (Value.int .i64)) 3 HG0.out (List.replicate 1 (.int .i64 z)) HCN.out HPO.out HFI.out (oneI 1 z) w'.heap.size w' HB0.out HBP.out ?_; intro w2 hg2 hb2)
    have HR2 : Hid (IR w2 P (List.replicate 1 z ++ List.replicate (N - 1) 0)) := by
      have h := hg2.out
      rw [rep_splice z (N := N) (m := 0) (c := 1) (by omega)] at h
      exact h
    have HB2 := hidIt hb2
    clear hg2 hb2 HR0 HB0 HC0
    clear HCN HPO HFI HG0
    go_loopw [8] (fun v8 wr => ∃ m : Nat, v8 = .int .i64 m ∧ 1 ≤ m ∧ m ≤ N ∧ Hid (IR wr P (List.replicate m z ++ List.replicate (N - m) 0)) ∧ Hid (Below w'.heap.size w' wr)) (fun v8 _ => N - (intOf v8).toNat)
    case atStart => exact ⟨1, (by first | rfl | trivial), Nat.le_refl _, hN1, HR2.out, HB2.out⟩
    case round =>
      clear HR2 HB2
      obtain ⟨m, rfl, hm1, hmN, HR, HB⟩ := hrel
      have hm0 : (0 : Int) ≤ (m : Int) := by omega
      by_cases hlt : m < N
      · have hmI : (m : Int) < (N : Int) := by omega
        have hmI2 : (m : Int) ≤ (N : Int) := by omega
        obtain ⟨c, hc⟩ : ∃ c, c = min m (N - m) := ⟨_, rfl⟩
        have hc1 : 1 ≤ c := by omega
        have hc2 : m + c ≤ N := by omega
        have HCN : Hid ((List.replicate c (Value.int .i64 z)).length = Nat.min m (N - m)) := by show _ = min m (N - m); rw [List.length_replicate]; exact hc
        have HPO : Hid (∀ j v, (List.replicate c (Value.int .i64 z))[j]? = some v → wr.drew.cell? ((⟨P, 0, none⟩ : Addr).add j) = some v) := fun j v hj => by
          have h1 := (List.getElem?_eq_some_iff.1 hj).1
          rw [List.length_replicate] at h1
          have h2 : v = .int .i64 z := List.eq_of_mem_replicate (List.mem_of_getElem? hj)
          subst h2
          rw [add_plain9, Nat.zero_add]
          have h3 := HR.out.cell (i := j) (by simp; omega)
          rw [List.getElem_append_left (by simp; omega), List.getElem_replicate] at h3
          exact h3
        have HFI : Hid (m + (List.replicate c (Value.int .i64 z)).length ≤ ((List.replicate m z ++ List.replicate (N - m) 0).map (Value.int .i64)).length) := by show _ ≤ _; simp; omega
        have HG0 : Hid (wr.drew.heap[P]? = some (.cells ((List.replicate m z ++ List.replicate (N - m) 0).map (Value.int .i64)).toArray 3 (0, 0))) := HR.out
        have HBd : Hid (Below w'.heap.size w' wr.drew) := ⟨HB.out.os, HB.out.tape, HB.out.output, HB.out.size, HB.out.block⟩
        have hw : IntKind.i64.wrap ((m : Int) + (c : Int)) = (m : Int) + (c : Int) := IntWalk.i64_in _ (by omega)
        have hNm : ¬ N = m := by omega
        have HSP := hidIt (rep_splice z (N := N) (m := m) (c := c) hc2)
        have hcl : (List.replicate c (Value.int .i64 z)).length = c := List.length_replicate
        clear hc
        go_wp2_with fail
        go_region_law (with_reducible refine step_copy_splice rfl (.tmp 41) (.tmp 44) 22 22 rfl 3 Try.underlying22 elemI1 (some ⟨P, m, none⟩) (some ⟨P, 0, none⟩) (N - m) (N - m) m N (by go_simp) (by go_simp) P m ((List.replicate m z ++ List.replicate (N - m) 0).map (Value.int .i64)) 3 HG0.out (List.replicate c (.int .i64 z)) HCN.out (fun _ => ⟨rfl, ⟨P, 0, none⟩, rfl, HPO.out⟩) HFI.out (oneI c z) w'.heap.size w' HBd.out HBP.out ?_; intro w4 hg4 hb4)
        have HR4 : Hid (IR w4 P (List.replicate (m + c) z ++ List.replicate (N - (m + c)) 0)) := by
          have h := hg4.out
          rw [HSP.out] at h
          exact h
        have HB4 := hidIt hb4
        clear hg4 hb4 HPO HCN HFI HG0 HBd HSP
        go_simp
        go_roundw
        case rel => exact ⟨_, _, _, _, _, _, _, _, _, _, _, _, _, _, ⟨m + c, by go_num, by omega, by omega, HR4.out, HB4.out⟩, rfl⟩
        case measure => simp [intOf, Act.put]; omega
      · obtain rfl : m = N := by omega
        have hmI : ¬ (m : Int) < (m : Int) := by omega
        have HE : Hid (IR wr P (List.replicate m z)) := by
          have h := HR.out
          rwa [Nat.sub_self, List.replicate_zero, List.append_nil] at h
        go_wp2_with fail
        go_ret
        exact ⟨P, rfl, HBP.out, HE.out, HB.out⟩
end Go.Proofs.Ytghnojmaciljoaa
