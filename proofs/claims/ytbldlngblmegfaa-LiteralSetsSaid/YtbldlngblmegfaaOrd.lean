/- The plain mathematics of the order of literals: it is total, and two that are not ordered are one. -/
import Derived.Test.YtbldlngblmegfaaComp
import Derived.Shelf.SlSortCmp.Insertion
import Derived.Sort.Statements
namespace Go.Proofs.Ytbldlngblmegfaa
open Go.RowKit

theorem cb_self : ∀ a : List UInt8, Lib.compareBytes a a = 0
  | [] => by simp [Lib.compareBytes]
  | a :: at1 => by simp [Lib.compareBytes, cb_self at1]

theorem cb_swap : ∀ a b : List UInt8, Lib.compareBytes b a = - Lib.compareBytes a b
  | [], [] => by simp [Lib.compareBytes]
  | [], b :: bt1 => by simp [Lib.compareBytes]
  | a :: at1, [] => by simp [Lib.compareBytes]
  | a :: at1, b :: bt1 => by
    simp only [Lib.compareBytes]
    by_cases h1 : a < b
    · have h2 : ¬ b < a := by rw [UInt8.lt_iff_toNat_lt] at *; omega
      simp [h1, h2]
    · by_cases h2 : b < a
      · simp [h1, h2]
      · simp [h1, h2, cb_swap at1 bt1]

theorem cb_eq : ∀ a b : List UInt8, Lib.compareBytes a b = 0 → a = b
  | [], [], _ => rfl
  | [], b :: bt1, h => by simp [Lib.compareBytes] at h
  | a :: at1, [], h => by simp [Lib.compareBytes] at h
  | a :: at1, b :: bt1, h => by
    simp only [Lib.compareBytes] at h
    by_cases h1 : a < b
    · simp [h1] at h
    · by_cases h2 : b < a
      · simp [h1, h2] at h
      · have e : a = b := by
          rw [UInt8.lt_iff_toNat_lt] at *
          exact UInt8.toNat_inj.1 (by omega)
        simp [h1, h2] at h
        rw [e, cb_eq at1 bt1 h]

theorem cb_bd : ∀ a b : List UInt8, Lib.compareBytes a b = -1 ∨ Lib.compareBytes a b = 0 ∨ Lib.compareBytes a b = 1
  | [], [] => by simp [Lib.compareBytes]
  | [], b :: bt1 => by simp [Lib.compareBytes]
  | a :: at1, [] => by simp [Lib.compareBytes]
  | a :: at1, b :: bt1 => by
    simp only [Lib.compareBytes]
    split
    · simp
    · split
      · simp
      · exact cb_bd at1 bt1

theorem cb_trans : ∀ a b c : List UInt8, Lib.compareBytes a b < 0 → Lib.compareBytes b c < 0 → Lib.compareBytes a c < 0
  | [], [], _, h, _ => by simp [Lib.compareBytes] at h
  | a :: at1, [], _, h, _ => by simp [Lib.compareBytes] at h
  | _, b :: bt1, [], _, h => by simp [Lib.compareBytes] at h
  | [], b :: bt1, c :: ct1, _, _ => by simp [Lib.compareBytes]
  | a :: at1, b :: bt1, c :: ct1, h, k => by
    simp only [Lib.compareBytes] at *
    by_cases h1 : a < b
    · by_cases k1 : b < c
      · have : a < c := by rw [UInt8.lt_iff_toNat_lt] at *; omega
        simp [this]
      · by_cases k2 : c < b
        · simp [k1, k2] at k
        · have : a < c := by rw [UInt8.lt_iff_toNat_lt] at *; omega
          simp [this]
    · by_cases h2 : b < a
      · simp [h1, h2] at h
      · by_cases k1 : b < c
        · have : a < c := by rw [UInt8.lt_iff_toNat_lt] at *; omega
          simp [this]
        · by_cases k2 : c < b
          · simp [k1, k2] at k
          · have n1 : ¬ a < c := by rw [UInt8.lt_iff_toNat_lt] at *; omega
            have n2 : ¬ c < a := by rw [UInt8.lt_iff_toNat_lt] at *; omega
            simp [h1, h2] at h
            simp [k1, k2] at k
            simp [n1, n2]
            exact cb_trans at1 bt1 ct1 h k

theorem bytes_eq {a b : ByteArray} (h : a.data.toList = b.data.toList) : a = b := by
  obtain ⟨⟨a⟩⟩ := a
  obtain ⟨⟨b⟩⟩ := b
  simp only at h
  rw [h]

theorem names_same (a b : ByteArray) : (a.toList == b.toList) = decide (a = b) := by
  rw [Lib.toList_data, Lib.toList_data, Bool.eq_iff_iff]
  simp only [beq_iff_eq, decide_eq_true_eq]
  exact ⟨bytes_eq, fun h => by rw [h]⟩

theorem cmpI_eq' (x y : Lt) : cmpI x y = if x.name = y.name then (if x.neg = y.neg then 0 else if y.neg then -1 else 1) else Lib.compareBytes x.name.data.toList y.name.data.toList := by
  unfold cmpI
  rw [names_same]
  simp only [decide_eq_true_eq, beq_iff_eq]

theorem cmpI_self (x : Lt) : cmpI x x = 0 := by rw [cmpI_eq']; simp

theorem cmpI_bd (x y : Lt) : cmpI x y = -1 ∨ cmpI x y = 0 ∨ cmpI x y = 1 := by
  rw [cmpI_eq']
  split
  · split
    · simp
    · split <;> simp
  · exact cb_bd _ _

theorem cmpI_swap (x y : Lt) : cmpI y x = - cmpI x y := by
  rw [cmpI_eq', cmpI_eq']
  by_cases h : x.name = y.name
  · rw [if_pos h, if_pos h.symm]
    cases x.neg <;> cases y.neg <;> simp
  · rw [if_neg h, if_neg (fun e => h e.symm), cb_swap]

theorem cmpI_zero {x y : Lt} (h : cmpI x y = 0) : x = y := by
  rw [cmpI_eq'] at h
  obtain ⟨g, s⟩ := x
  obtain ⟨g', s'⟩ := y
  simp only at h
  split at h
  · rename_i hn
    subst hn
    cases g <;> cases g' <;> simp at h ⊢
  · rename_i hn
    exact absurd (bytes_eq (cb_eq _ _ h)) hn

theorem cmpI_trans {x y z : Lt} (h : cmpI x y < 0) (k : cmpI y z < 0) : cmpI x z < 0 := by
  obtain ⟨g, s⟩ := x
  obtain ⟨g', s'⟩ := y
  obtain ⟨g'', s''⟩ := z
  rw [cmpI_eq'] at *
  simp only at *
  by_cases h1 : s = s'
  · subst h1
    by_cases k1 : s = s''
    · subst k1
      cases g <;> cases g' <;> cases g'' <;> simp at *
    · rw [if_neg k1] at *
      exact k
  · rw [if_neg h1] at h
    by_cases k1 : s' = s''
    · subst k1
      rw [if_neg h1]
      exact h
    · rw [if_neg k1] at k
      have t := cb_trans _ _ _ h k
      have hne : s ≠ s'' := fun e => by
        subst e
        rw [cb_self] at t
        omega
      rw [if_neg hne]
      exact t

theorem swo : Sort.SWO (ltOf cmpI) where
  irrefl x := by simp [ltOf, cmpI_self]
  trans x y z h k := by
    simp only [ltOf, decide_eq_true_eq] at *
    exact cmpI_trans h k
  ntrans x y z h k := by
    simp only [ltOf, decide_eq_false_iff_not] at *
    have a := cmpI_swap x y
    have b := cmpI_swap y z
    have c := cmpI_swap x z
    rcases cmpI_bd x y with h1 | h1 | h1
    · omega
    · rw [cmpI_zero h1]; exact k
    · rcases cmpI_bd y z with k1 | k1 | k1
      · omega
      · rw [← cmpI_zero k1]; exact h
      · have := cmpI_trans (x := z) (y := y) (z := x) (by omega) (by omega)
        omega

theorem lt_total (x y : Lt) (h : ltOf cmpI x y = false) (k : ltOf cmpI y x = false) : x = y := by
  simp only [ltOf, decide_eq_false_iff_not] at *
  have := cmpI_swap x y
  exact cmpI_zero (by omega)
end Go.Proofs.Ytbldlngblmegfaa
