/- Bytes: what a population count works out by bytes. -/
import Derived.Test.YtfiaoibfejginaaDoorG0O
namespace Go.Proofs.YtfiaoibfejginaaDoor
set_option linter.unusedVariables false
set_option linter.unusedSimpArgs false
open Go Go.RowKit

/-- Bytes, the lowest first. -/
def byL : List Nat → Nat
  | [] => 0
  | a :: l => a + 256 * byL l
/-- One byte, n times. -/
def rpt (m : Nat) : Nat → Nat
  | 0 => 0
  | n + 1 => m + 256 * rpt m n

theorem st1L : ∀ l : List Nat, (∀ b ∈ l, b < 256) → (byL l / 2 &&& rpt 85 l.length) + (byL l &&& rpt 85 l.length) = byL (l.map t1)
  | [], _ => by simp [byL, rpt]
  | a :: l, h => by
    have ih := st1L l fun b hb => h b (by simp [hb])
    have ha := h a (by simp)
    simp only [byL, List.length_cons, rpt, List.map_cons]
    rw [land_1 a _ _ (rpt 85 l.length) ha rfl, land_0 a _ _ 85 (rpt 85 l.length) ha rfl (by omega), ← ih]
    unfold t1
    omega
theorem st2L : ∀ l : List Nat, (∀ b ∈ l, b < 256) → (byL l / 4 &&& rpt 51 l.length) + (byL l &&& rpt 51 l.length) = byL (l.map t2)
  | [], _ => by simp [byL, rpt]
  | a :: l, h => by
    have ih := st2L l fun b hb => h b (by simp [hb])
    have ha := h a (by simp)
    simp only [byL, List.length_cons, rpt, List.map_cons]
    rw [land_2 a _ _ (rpt 51 l.length) ha rfl, land_0 a _ _ 51 (rpt 51 l.length) ha rfl (by omega), ← ih]
    unfold t2
    omega
def nib (a : Nat) : Nat := a % 16 + a / 16
theorem byL_low : ∀ l : List Nat, (∀ b ∈ l, b % 16 ≤ 4 ∧ b / 16 ≤ 4) → byL l % 16 ≤ 4
  | [], _ => by simp [byL]
  | a :: l, h => by
    have ha := h a (by simp)
    simp only [byL]
    omega
theorem st3L : ∀ l : List Nat, (∀ b ∈ l, b % 16 ≤ 4 ∧ b / 16 ≤ 4) → (byL l / 16 + byL l) &&& rpt 15 l.length = byL (l.map nib)
  | [], _ => by simp [byL, rpt]
  | a :: l, h => by
    have h' : ∀ b ∈ l, b % 16 ≤ 4 ∧ b / 16 ≤ 4 := fun b hb => h b (by simp [hb])
    have ih := st3L l h'
    have hl := byL_low l h'
    have ha := h a (by simp)
    simp only [byL, List.length_cons, rpt, List.map_cons]
    have e : (a + 256 * byL l) / 16 + (a + 256 * byL l) = (a + a / 16 + 16 * (byL l % 16)) + 256 * (byL l / 16 + byL l) := by omega
    rw [e, land_0 _ _ _ 15 (rpt 15 l.length) (by omega) rfl (by omega), ih, and15]
    unfold nib
    omega

theorem byL_lt : ∀ l : List Nat, (∀ b ∈ l, b < 256) → byL l < 256 ^ l.length
  | [], _ => by simp [byL]
  | a :: l, h => by
    have ih := byL_lt l fun b hb => h b (by simp [hb])
    have ha := h a (by simp)
    simp only [byL, List.length_cons, Nat.pow_succ]
    omega
theorem byL_le (m : Nat) : ∀ l : List Nat, (∀ b ∈ l, b ≤ m) → byL l ≤ rpt m l.length
  | [], _ => by simp [byL, rpt]
  | a :: l, h => by
    have ih := byL_le m l fun b hb => h b (by simp [hb])
    have ha := h a (by simp)
    simp only [byL, List.length_cons, rpt]
    omega

/-- The number's bits among the first n. -/
def cntN (x n : Nat) : Nat := (List.range n).countP fun j => x.testBit j
theorem cntN_byte (a R n : Nat) (ha : a < 256) : cntN (a + 256 * R) (8 + n) = cntN a 8 + cntN R n := by
  unfold cntN
  rw [List.range_add, List.countP_append, List.countP_map]
  have e : a + 256 * R = 2 ^ 8 * R + a := by omega
  congr 1
  · refine List.countP_congr fun j hj => ?_
    rw [List.mem_range] at hj
    rw [e, Nat.testBit_two_pow_mul_add R (by omega)]
    simp [hj]
  · refine List.countP_congr fun j hj => ?_
    simp only [Function.comp]
    rw [e, Nat.testBit_two_pow_mul_add R (by omega)]
    simp
    intro h
    omega
theorem pop_F : ∀ b : Fin 256, pop b.val = cntN b.val 8 := by decide +kernel
theorem cnt_byL : ∀ l : List Nat, (∀ b ∈ l, b < 256) → cntN (byL l) (8 * l.length) = (l.map pop).sum
  | [], _ => by simp [cntN]
  | a :: l, h => by
    have ih := cnt_byL l fun b hb => h b (by simp [hb])
    have ha := h a (by simp)
    simp only [byL, List.length_cons, List.map_cons, List.sum_cons]
    rw [show 8 * (l.length + 1) = 8 + 8 * l.length by omega, cntN_byte a _ _ ha, ih]
    congr 1
    exact (pop_F ⟨a, ha⟩).symm

theorem byL_bytes (x : Nat) (hx : x < 18446744073709551616) : ∃ a b c d e f g h : Nat, (∀ y ∈ [a, b, c, d, e, f, g, h], y < 256) ∧ x = byL [a, b, c, d, e, f, g, h] := by
  refine ⟨x % 256, x / 256 % 256, x / 65536 % 256, x / 16777216 % 256, x / 4294967296 % 256, x / 1099511627776 % 256, x / 281474976710656 % 256, x / 72057594037927936, ?_, ?_⟩
  · intro y hy
    simp only [List.mem_cons, List.not_mem_nil, or_false] at hy
    omega
  · simp only [byL]
    omega

theorem byL_div (a : Nat) (l : List Nat) (h : a < 256) : byL (a :: l) / 256 = byL l := by
  simp only [byL]
  omega
theorem byL_div2 (a b : Nat) (l : List Nat) (h : a < 256) (h' : b < 256) : byL (a :: b :: l) / 65536 = byL l := by
  rw [show 65536 = 256 * 256 from rfl, ← Nat.div_div_eq_div_mul, byL_div a _ h, byL_div b _ h']
theorem byL_div4 (a b c d : Nat) (l : List Nat) (h : a < 256) (h' : b < 256) (h2 : c < 256) (h3 : d < 256) : byL (a :: b :: c :: d :: l) / 4294967296 = byL l := by
  rw [show 4294967296 = 65536 * 65536 from rfl, ← Nat.div_div_eq_div_mul, byL_div2 a b _ h h', byL_div2 c d _ h2 h3]
theorem byL_small (m : Nat) (l : List Nat) (hm : m ≤ 64) (hl : l.length = 8) (h : ∀ b ∈ l, b ≤ m) : byL l ≤ 4629771061636907072 := by
  have h1 := byL_le 64 l fun b hb => Nat.le_trans (h b hb) hm
  rw [hl] at h1
  have : rpt 64 8 = 4629771061636907072 := by decide
  omega
end Go.Proofs.YtfiaoibfejginaaDoor
