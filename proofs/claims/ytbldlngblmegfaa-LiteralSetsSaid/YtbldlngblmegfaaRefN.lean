/- The reference's Has and Consistent. -/
import Derived.Test.YtbldlngblmegfaaSame
import Derived.Test.YtbldlngblmegfaaRefL
import Derived.Test.YtbldlngblmegfaaCount
namespace Go.Proofs.Ytbldlngblmegfaa
open Go.RowKit Go.Sort

set_option maxRecDepth 100000 in
set_option maxHeartbeats 1000000 in
theorem rHas_any (v : Value) (xs : List Lt) (x : Lt) (w : World) (h : LitsAt w v xs) (hn : xs.length ≤ 1000000) :
    Calls Try.prog 34 #[v, .agg #[.bool x.neg, .string x.name]] w fun e w' => e = .returned (.bool (decide (x ∈ xs))) ∧ Below w.heap.size w w' := by
  obtain ⟨a, c, rfl, k1⟩ := h.form
  have K1 := hidIt k1
  clear k1 h
  obtain ⟨gx, sx⟩ := x
  have HB0 : Hid (Below w.heap.size w (w.alloc (.cells #[.bool gx, .string sx] 23))) := (Below.refl _ _).alloc (Nat.le_refl _) _
  have hx0 := cell_two0 (heap_alloc_new w (.cells #[.bool gx, .string sx] 23))
  have hx1 := cell_two1 (heap_alloc_new w (.cells #[.bool gx, .string sx] 23))
  have K2 : Hid (∀ i, i < xs.length → ∃ b off, a = some ⟨b, off, none⟩ ∧ (w.alloc (.cells #[.bool gx, .string sx] 23)).cell? ⟨b, off + i * 2, none⟩ = some (.bool (xs[i]!).neg) ∧ (w.alloc (.cells #[.bool gx, .string sx] 23)).cell? ⟨b, off + i * 2 + 1, none⟩ = some (.string (xs[i]!).name)) := fun i hi => by
    obtain ⟨b, off, e, p0, p1⟩ := K1.out i hi
    exact ⟨b, off, e, (HB0.out.cell (p := ⟨b, off + i * 2, none⟩) (World.block_lt_of_cell? w _ p0)).trans p0, (HB0.out.cell (p := ⟨b, off + i * 2 + 1, none⟩) (World.block_lt_of_cell? w _ p1)).trans p1⟩
  clear K1
  go_enter Try.func34, Try.ntmps34
  go_wp2_with fail
  generalize (w.alloc (.cells #[.bool gx, .string sx] 23)) = w0 at *
  go_loopw [5] (fun i wr => ∃ k n : Nat, k ≤ xs.length ∧ i = .int .i64 k ∧ Hid ((⟨gx, sx⟩ : Lt) ∉ xs.take k) ∧ wr = w0.drewN n) (fun i _ => xs.length - (intOf i).toNat)
  case atStart => exact ⟨0, 0, Nat.zero_le _, rfl, (by simp : _ ∉ xs.take 0), rfl⟩
  case round =>
    obtain ⟨k, n, hk, rfl, hno, rfl⟩ := hrel
    by_cases hlt : k < xs.length
    · obtain ⟨b1, o1, rfl, p0, p1⟩ := K2.out k hlt
      have hst := hidIt (mem_take_succ (x := (⟨gx, sx⟩ : Lt)) hlt)
      have hmem : Hid (xs[k]! ∈ xs) := by show _ ∈ _; rw [getElem!_pos xs k hlt]; exact List.getElem_mem hlt
      generalize xs[k]! = y at *
      obtain ⟨gy, sy⟩ := y
      simp only at p0 p1
      have hgd := fun (op : BinOp) (a b : Operand) (w : World) => gdL op a b gy gx sy sx w
      cases hxy : decide ((⟨gy, sy⟩ : Lt) = ⟨gx, sx⟩)
      · have hq : ∀ w, (Op.equalIn 10000 23 (.agg #[.bool gy, .string sy]) (.agg #[.bool gx, .string sx])).run Try.prog w = .ok false w := fun w => by rw [eqFieldsL gy gx sy sx, hxy]
        have HXY := hidIt (of_decide_eq_false hxy)
        clear hxy
        go_wp2_with fail
        go_quiet (fail)
        go_wp2
        go_roundw
        case rel => exact ⟨k + 1, _, by omega, by go_num, (fun hm => by rcases hst.out.1 hm with h1 | h1; exact hno.out h1; exact HXY.out h1.symm : _ ∉ _), rfl⟩
        case measure => simp [intOf]; omega
      · have hq : ∀ w, (Op.equalIn 10000 23 (.agg #[.bool gy, .string sy]) (.agg #[.bool gx, .string sx])).run Try.prog w = .ok true w := fun w => by rw [eqFieldsL gy gx sy sx, hxy]
        have HXY := hidIt (of_decide_eq_true hxy)
        clear hxy
        go_wp2_with fail
        go_quiet (fail)
        go_wp2
        go_ret
        exact ⟨ret_bool (by rw [eq_comm, decide_eq_true_eq]; rw [← HXY.out]; exact hmem.out), HB0.out.trans ⟨rfl, rfl, rfl, Nat.le_refl _, fun _ _ => rfl⟩⟩
    · go_wp2
      go_ret
      refine ⟨ret_bool ?_, HB0.out.trans ⟨rfl, rfl, rfl, Nat.le_refl _, fun _ _ => rfl⟩⟩
      have h1 := hno.out
      rw [List.take_of_length_le (by omega)] at h1
      rw [eq_comm, decide_eq_false_iff_not]
      exact h1

set_option maxRecDepth 100000 in
set_option maxHeartbeats 1000000 in
theorem rConsistent_any (v : Value) (xs : List Lt) (w : World) (h : LitsAt w v xs) (hn : xs.length ≤ 1000000) :
    Calls Try.prog 32 #[v] w fun e w' => e = .returned (.bool (consB xs)) ∧ Below w.heap.size w w' := by
  have HL := hidIt h
  obtain ⟨a, c, rfl, -⟩ := h.form
  clear h
  go_enter Try.func32, Try.ntmps32
  go_wp2_with fail
  go_loopw [3] (fun i wr => ∃ k : Nat, k ≤ xs.length ∧ i = .int .i64 k ∧ Hid (∀ x ∈ xs.take k, comp x ∉ xs) ∧ Hid (Below w.heap.size w wr)) (fun i _ => xs.length - (intOf i).toNat)
  case atStart => exact ⟨0, Nat.zero_le _, rfl, (fun x hx => by simp at hx), Below.refl _ _⟩
  case round =>
    obtain ⟨k, hk, rfl, hno, hbel⟩ := hrel
    by_cases hlt : k < xs.length
    · have HK := hidIt (HL.out.below hbel.out)
      obtain ⟨a', c', e, k1⟩ := HK.out.form
      obtain ⟨b1, o1, ha, p0, p1⟩ := k1 k hlt
      injection e with e1 e2 e3
      subst e1 e3
      subst ha
      have hst : Hid (∀ z, z ∈ xs.take (k + 1) → z ∈ xs.take k ∨ z = xs[k]!) := fun z hz => (mem_take_succ (x := z) hlt).1 hz
      have hmem : Hid (xs[k]! ∈ xs) := by show _ ∈ _; rw [getElem!_pos xs k hlt]; exact List.getElem_mem hlt
      clear k1
      generalize xs[k]! = y at *
      go_wp2_with fail
      refine (rComplement_any y wr).mono ?_
      rintro e w1 ⟨rfl, hb1⟩
      have HB1 := hidIt (hbel.out.trans (hb1.mono hbel.out.size))
      have HK1 := hidIt (HK.out.below hb1)
      clear hb1 p0 p1
      go_wp2_with fail
      have hh := rHas_any _ xs (comp y) w1 HK1.out hn
      rw [show (comp y).neg = !y.neg from rfl, show (comp y).name = y.name from rfl] at hh
      refine hh.mono ?_
      rintro e w2 ⟨rfl, hb2⟩
      have HB2 := hidIt (HB1.out.trans (hb2.mono HB1.out.size))
      clear hb2
      cases hd : decide (comp y ∈ xs)
      · have HD := hidIt (of_decide_eq_false hd)
        clear hd
        go_wp2_with fail
        go_roundw
        case rel => exact ⟨k + 1, by omega, by go_num, (fun x hx => by rcases hst.out x hx with h1 | h1; exact hno.out x h1; rw [h1]; exact HD.out), HB2⟩
        case measure => simp [intOf]; omega
      · have HD := hidIt (of_decide_eq_true hd)
        clear hd
        go_wp2_with fail
        go_ret
        refine ⟨ret_bool ?_, HB2.out⟩
        rw [eq_comm, Bool.eq_false_iff]
        intro hc
        exact (consB_iff xs).1 hc y hmem.out HD.out
    · go_wp2
      go_ret
      refine ⟨ret_bool ?_, hbel.out⟩
      rw [eq_comm, consB_iff]
      have h1 := hno.out
      rw [List.take_of_length_le (by omega)] at h1
      exact h1
end Go.Proofs.Ytbldlngblmegfaa
