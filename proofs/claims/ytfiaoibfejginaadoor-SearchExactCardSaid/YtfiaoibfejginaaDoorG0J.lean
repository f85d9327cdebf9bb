/- Shifts of one bit; has. -/
import Derived.Test.YtfiaoibfejginaaDoorG0T
namespace Go.Proofs.YtfiaoibfejginaaDoor
set_option linter.unusedVariables false
set_option linter.unusedSimpArgs false
open Go Go.RowKit Go.Sort

/-- One element. -/
abbrev oneB (m : Nat) : BitVec 64 := BitVec.twoPow 64 m
theorem one_toNat {m : Nat} (h : m < 64) : (oneB m).toNat = 2 ^ m := by
  rw [BitVec.toNat_twoPow]
  exact Nat.mod_eq_of_lt (Nat.pow_lt_pow_right (by decide) h)
theorem wrap_one {m : Nat} (h : m < 64) : IntKind.u64.wrap (2 ^ m) = ((oneB m).toNat : Int) := by
  rw [← wrap_bv, one_toNat h]
  simp
theorem or_one (S : BitVec 64) {m : Nat} (h : m < 64) : bits .or .u64 (S.toNat : Int) (IntKind.u64.wrap (2 ^ m)) = ((S ||| oneB m).toNat : Int) := by
  rw [wrap_one h, bits_or_bv]
theorem bit_shr (S : BitVec 64) (m : Nat) : bits .and .u64 ((S.toNat : Int) / 2 ^ m) 1 = if S.getLsbD m then 1 else 0 := by
  have e : ((S.toNat : Int) / 2 ^ m) = ((S >>> m).toNat : Int) := by
    rw [BitVec.toNat_ushiftRight, Nat.shiftRight_eq_div_pow]
    simp
  rw [e, show (1 : Int) = ((1#64).toNat : Int) from rfl, bits_and_bv]
  have h2 : (S >>> m &&& 1#64).toNat = (S.toNat >>> m) % 2 := by
    rw [BitVec.toNat_and, BitVec.toNat_ushiftRight]
    exact Nat.and_one_is_mod _
  rw [h2]
  have h3 : S.getLsbD m = decide ((S.toNat >>> m) % 2 = 1) := by
    show S.toNat.testBit m = _
    rw [Nat.testBit, Nat.and_comm, Nat.and_one_is_mod]
    rcases Nat.mod_two_eq_zero_or_one (S.toNat >>> m) with h | h <;> rw [h] <;> rfl
  rw [h3]
  rcases Nat.mod_two_eq_zero_or_one (S.toNat >>> m) with h | h <;> rw [h] <;> rfl

theorem one_cell {w : World} {K : Nat} {u : Value} {t : TypeId} (h : w.heap[K]? = some (.cells #[u] t (0, 0))) : w.cell? ⟨K, 0, none⟩ = some u := by simp [World.cell?, h]
end Go.Proofs.YtfiaoibfejginaaDoor
