/- LessCommitted: the program's and the reference's, for any lists. -/
import Derived.Test.YtghnojmaciljoaaG0A
namespace Go.Proofs.Ytghnojmaciljoaa
set_option linter.unusedVariables false
set_option linter.unusedSimpArgs false
open Go Go.RowKit Go.Sort

/-- Is the first list less committed than the second one? -/
def lessF : List Int → List Int → Bool
  | [], [] => true
  | x :: r, y :: s => (!(decide (x = 1) || decide (x = 2)) || decide (y = x)) && lessF r s
  | [], _ :: _ => false
  | _ :: _, [] => false
theorem lessF_len : ∀ {xs ys : List Int}, xs.length ≠ ys.length → lessF xs ys = false
  | [], [], h => absurd rfl h
  | [], _ :: _, _ => rfl
  | _ :: _, [], _ => rfl
  | x :: r, y :: s, h => by
    have ih : lessF r s = false := lessF_len (fun e => h (by simp [e]))
    show (_ && lessF r s) = false
    rw [ih, Bool.and_false]
theorem lessF_step {xs ys : List Int} {k : Nat} (h1 : k < xs.length) (h2 : k < ys.length) : lessF (xs.drop k) (ys.drop k) = ((!(decide (xs[k] = 1) || decide (xs[k] = 2)) || decide (ys[k] = xs[k])) && lessF (xs.drop (k + 1)) (ys.drop (k + 1))) := by
  rw [List.drop_eq_getElem_cons h1, List.drop_eq_getElem_cons h2]
  rfl
theorem lessF_end {xs ys : List Int} {k : Nat} (h1 : k = xs.length) (h2 : xs.length = ys.length) : lessF (xs.drop k) (ys.drop k) = true := by
  rw [List.drop_of_length_le (by omega), List.drop_of_length_le (by omega)]
  rfl
theorem lessF_iff : ∀ {xs ys : List Int}, lessF xs ys = true ↔ xs.length = ys.length ∧ ∀ i (h1 : i < xs.length) (h2 : i < ys.length), xs[i] = 1 ∨ xs[i] = 2 → ys[i] = xs[i]
  | [], [] => ⟨fun _ => ⟨rfl, fun i h => by simp at h⟩, fun _ => rfl⟩
  | [], _ :: _ => ⟨fun h => (by cases h), fun h => (by simp at h)⟩
  | _ :: _, [] => ⟨fun h => (by cases h), fun h => (by simp at h)⟩
  | x :: r, y :: s => by
    show ((!(decide (x = 1) || decide (x = 2)) || decide (y = x)) && lessF r s) = true ↔ _
    rw [Bool.and_eq_true, lessF_iff]
    constructor
    · rintro ⟨h1, h2, h3⟩
      refine ⟨by simp [h2], fun i => ?_⟩
      cases i with
      | zero =>
        intro _ _ h
        show y = x
        have h : x = 1 ∨ x = 2 := h
        rcases h with h | h <;> simpa [h] using h1
      | succ i => exact fun a b => h3 i (by simpa using a) (by simpa using b)
    · rintro ⟨h2, h3⟩
      refine ⟨?_, by simpa using h2, fun i a b => h3 (i + 1) (by simpa using a) (by simpa using b)⟩
      have h0 : x = 1 ∨ x = 2 → y = x := h3 0 (by simp) (by simp)
      by_cases e : x = 1 ∨ x = 2
      · simp [h0 e]
      · simp only [not_or] at e
        simp [e.1, e.2]

set_option maxRecDepth 100000 in
set_option maxHeartbeats 1000000 in
theorem lLess_any (v1 v2 : Value) (xs ys : List Int) (w : World) (h1 : IL w v1 xs) (h2 : IL w v2 ys) (hn : xs.length ≤ 1000000) (hm : ys.length ≤ 1000000) :
    Calls Try.prog 23 #[v1, v2] w fun e w' => e = .returned (.bool (lessF xs ys)) ∧ Below w.heap.size w w' := by
  obtain ⟨a1, c1, rfl, k1⟩ := h1.form
  obtain ⟨a2, c2, rfl, k2⟩ := h2.form
  have K1 := hidIt k1
  have K2 := hidIt k2
  clear k1 k2 h1 h2
  by_cases hl : xs.length = ys.length
  rotate_left
  · have hlb : ((xs.length : Int) != (ys.length : Int)) = true := bne_iff_ne.2 (by omega)
    have HE := hidIt (lessF_len hl)
    clear hl
    go_enter Try.func23, Try.ntmps23
    go_wp2_with fail
    go_ret
    exact ⟨ret_bool HE.out.symm, Below.refl _ _⟩
  have HL := hidIt hl
  have hlb : ((xs.length : Int) != (ys.length : Int)) = false := by rw [hl]; exact bne_self_eq_false _
  have HV : Hid (lessF xs ys = lessF (xs.drop 0) (ys.drop 0)) := (rfl : _ = _)
  generalize lessF xs ys = V at *
  clear hl
  obtain ⟨L, hL⟩ : ∃ L, L = ys.length := ⟨_, rfl⟩
  have HY := hidIt hL
  rw [← hL] at HL hlb hm ⊢
  obtain ⟨M, hM⟩ : ∃ M, M = xs.length := ⟨_, rfl⟩
  have HX := hidIt hM
  rw [← hM] at HL hlb hn ⊢
  clear hL hM
  go_enter Try.func23, Try.ntmps23
  go_wp2_with fail
  go_loopw [5, 6, 14] (fun _ _ i wr => ∃ k : Nat, k ≤ M ∧ i = .int .i64 k ∧ wr = w ∧ Hid (V = lessF (xs.drop k) (ys.drop k))) (fun _ _ i _ => M - (intOf i).toNat)
  case atStart => exact ⟨0, Nat.zero_le _, (by first | rfl | trivial), (by first | rfl | trivial), HV.out⟩
  case round =>
    clear HV
    obtain ⟨k, hk, rfl, rfl, HT⟩ := hrel
    have hkI0 : (0 : Int) ≤ (k : Int) := by omega
    by_cases hlt : k < M
    · have hkI : (k : Int) < (M : Int) := by omega
      have hkL : (k : Int) < (L : Int) := by have := HL.out; omega
      have h1x : k < xs.length := by rw [← HX.out]; exact hlt
      have h1y : k < ys.length := by rw [← HY.out, ← HL.out]; exact hlt
      obtain ⟨b1, o1, rfl, l1, p0⟩ := K1.out k h1x
      obtain ⟨b2, o2, rfl, l2, q0⟩ := K2.out k h1y
      have HS := hidIt (HT.out.trans (lessF_step h1x h1y))
      generalize xs[k] = x at *
      generalize ys[k] = y at *
      clear h1x h1y HT
      by_cases hx : x = 1 ∨ x = 2
      · by_cases hy : y = x
        · have HE : Hid (V = lessF (xs.drop (k + 1)) (ys.drop (k + 1))) := by show _ = _; rw [HS.out]; simp [hy]
          have hb : (y != x) = false := by rw [hy]; exact bne_self_eq_false _
          clear hy HS
          rcases hx with rfl | rfl
          all_goals (
            go_wp2_with fail
            go_roundw
            case rel => exact ⟨k + 1, by omega, by go_num, (by first | rfl | trivial), HE.out⟩
            case measure => simp [intOf]; omega)
        · have HE : Hid (V = false) := by
            show _ = _
            rw [HS.out]
            rcases hx with rfl | rfl <;> simp [hy]
          have hb : (y != x) = true := bne_iff_ne.2 hy
          clear hy HS
          rcases hx with rfl | rfl
          all_goals (
            go_wp2_with fail
            go_ret
            exact ⟨ret_bool HE.out.symm, Below.refl _ _⟩)
      · obtain ⟨e1, e2⟩ : x ≠ 1 ∧ x ≠ 2 := by simpa using hx
        have HE : Hid (V = lessF (xs.drop (k + 1)) (ys.drop (k + 1))) := by show _ = _; rw [HS.out]; simp [e1, e2]
        have hb1 : (x == 1) = false := beq_eq_false_iff_ne.2 e1
        have hb2 : (x == 2) = false := beq_eq_false_iff_ne.2 e2
        clear hx e1 e2 HS
        go_wp2_with fail
        go_roundw
        case rel => exact ⟨k + 1, by omega, by go_num, (by first | rfl | trivial), HE.out⟩
        case measure => simp [intOf]; omega
    · have hkI : ¬ (k : Int) < (M : Int) := by omega
      have HE : Hid (V = true) := HT.out.trans (lessF_end (by rw [← HX.out]; omega) (by rw [← HX.out, ← HY.out]; exact HL.out))
      go_wp2_with fail
      go_ret
      exact ⟨ret_bool HE.out.symm, Below.refl _ _⟩

end Go.Proofs.Ytghnojmaciljoaa
