/- Sets of nodes as bits: the laws of their operations; TrailingZeros64; elements. -/
import Derived.Test.YtfiaoibfejginaaDoorG0C
import Derived.Shelf.Spec.TrailingZeros
namespace Go.Proofs.YtfiaoibfejginaaDoor
set_option linter.unusedVariables false
set_option linter.unusedSimpArgs false
open Go Go.RowKit Go.Sort

/-- A set as a value. -/
abbrev bv (S : BitVec 64) : Value := .int .u64 (S.toNat : Int)
theorem ofInt_bv (S : BitVec 64) : BitVec.ofInt 64 (S.toNat : Int) = S := by
  rw [BitVec.ofInt_natCast, BitVec.ofNat_toNat, BitVec.setWidth_eq]
theorem wrap_bv (S : BitVec 64) : IntKind.u64.wrap (S.toNat : Int) = (S.toNat : Int) := by
  have h := S.isLt
  rw [IntKind.wrap_u64]
  omega
theorem bits_and_bv (S T : BitVec 64) : bits .and .u64 (S.toNat : Int) (T.toNat : Int) = ((S &&& T).toNat : Int) := by
  show IntKind.u64.wrap ((BitVec.ofInt 64 (S.toNat : Int) &&& BitVec.ofInt 64 (T.toNat : Int)).toNat : Int) = _
  rw [ofInt_bv, ofInt_bv, wrap_bv]
theorem bits_or_bv (S T : BitVec 64) : bits .or .u64 (S.toNat : Int) (T.toNat : Int) = ((S ||| T).toNat : Int) := by
  show IntKind.u64.wrap ((BitVec.ofInt 64 (S.toNat : Int) ||| BitVec.ofInt 64 (T.toNat : Int)).toNat : Int) = _
  rw [ofInt_bv, ofInt_bv, wrap_bv]
theorem bits_andNot_bv (S T : BitVec 64) : bits .andNot .u64 (S.toNat : Int) (T.toNat : Int) = ((S &&& ~~~T).toNat : Int) := by
  show IntKind.u64.wrap ((BitVec.ofInt 64 (S.toNat : Int) &&& ~~~BitVec.ofInt 64 (T.toNat : Int)).toNat : Int) = _
  rw [ofInt_bv, ofInt_bv, wrap_bv]
theorem bv_ext {S T : BitVec 64} (h : (S.toNat : Int) = (T.toNat : Int)) : S = T := BitVec.eq_of_toNat_eq (by omega)
theorem bv_ne {S : BitVec 64} (h : S ≠ 0#64) : S.toNat ≠ 0 := fun e => h (BitVec.eq_of_toNat_eq (by rw [e]; rfl))
theorem sub_one_bv {S : BitVec 64} (h : S ≠ 0#64) : (S - 1#64).toNat = S.toNat - 1 := by
  have h1 := S.isLt
  have h2 := bv_ne h
  rw [BitVec.toNat_sub]
  simp only [BitVec.toNat_ofNat]
  omega
theorem wrap_sub_one {S : BitVec 64} (h : S ≠ 0#64) : IntKind.u64.wrap ((S.toNat : Int) - 1) = ((S - 1#64).toNat : Int) := by
  have h1 := S.isLt
  have h2 := bv_ne h
  rw [sub_one_bv h, IntKind.wrap_u64]
  omega

/-- The least element. -/
def ctzB (S : BitVec 64) : Nat := Lib.ctz 64 S.toNat
/-- The elements, ascending. -/
def members (S : BitVec 64) : List Nat := (List.range 64).filter S.getLsbD
theorem mem_members {S : BitVec 64} {k : Nat} : k ∈ members S ↔ k < 64 ∧ S.getLsbD k = true := by
  unfold members
  rw [List.mem_filter, List.mem_range]
theorem members_len (S : BitVec 64) : (members S).length ≤ 64 := by
  have := List.length_filter_le S.getLsbD (List.range 64)
  rwa [List.length_range] at this
theorem members_zero : members 0#64 = [] := by decide

theorem filter_first (p q : Nat → Bool) (k : Nat) (h1 : p k = true) (h2 : ∀ j, j < k → p j = false) (h3 : ∀ j, q j = (p j && decide (j ≠ k))) : ∀ n, k < n → (List.range n).filter p = k :: (List.range n).filter q
  | 0, h => by omega
  | n + 1, h => by
    rw [List.range_succ, List.filter_append, List.filter_append]
    by_cases e : k = n
    · subst e
      have e1 : (List.range k).filter p = [] := by
        rw [List.filter_eq_nil_iff]
        intro j hj
        simp [h2 j (List.mem_range.1 hj)]
      have e2 : (List.range k).filter q = [] := by
        rw [List.filter_eq_nil_iff]
        intro j hj
        simp [h3, h2 j (List.mem_range.1 hj)]
      rw [e1, e2]
      simp [h1, h3]
    · rw [filter_first p q k h1 h2 h3 n (by omega)]
      have : q n = p n := by rw [h3]; simp [Ne.symm e]
      rw [List.cons_append]
      simp only [List.filter_cons, List.filter_nil, this]

theorem low_facts {S : BitVec 64} (h : S ≠ 0#64) : ctzB S < 64 ∧ S.getLsbD (ctzB S) = true ∧ (∀ j, j < ctzB S → S.getLsbD j = false) ∧ ∀ j, (S &&& (S - 1#64)).getLsbD j = (S.getLsbD j && decide (j ≠ ctzB S)) := by
  have h0 := bv_ne h
  obtain ⟨m, hm, hk⟩ := Lib.ctzFrom_spec 64 S.toNat (by omega) S.isLt
  have ek : ctzB S = Lib.ctzFrom 64 S.toNat := by unfold ctzB Lib.ctz; rw [if_neg h0]
  rw [ek]
  generalize Lib.ctzFrom 64 S.toNat = k at *
  have hb : ∀ j, S.getLsbD j = (decide (j ≥ k) && (2 * m + 1).testBit (j - k)) := fun j => by
    show S.toNat.testBit j = _
    rw [hm, Nat.testBit_two_pow_mul]
  have hp : 0 < 2 ^ k := Nat.two_pow_pos k
  have e1 : (S - 1#64).toNat = 2 ^ k * (2 * m) + (2 ^ k - 1) := by
    rw [sub_one_bv h, hm, Nat.mul_add]
    omega
  have hb1 : ∀ j, (S - 1#64).getLsbD j = if j < k then (2 ^ k - 1).testBit j else (2 * m).testBit (j - k) := fun j => by
    show (S - 1#64).toNat.testBit j = _
    rw [e1, Nat.testBit_two_pow_mul_add _ (by omega)]
  refine ⟨hk, ?_, fun j hj => ?_, fun j => ?_⟩
  · rw [hb, Nat.sub_self]
    simp [Nat.testBit_zero]
  · rw [hb]
    have : ¬ j ≥ k := by omega
    simp [this]
  · rw [BitVec.getLsbD_and, hb, hb1]
    by_cases hj : j < k
    · have : ¬ j ≥ k := by omega
      simp [this]
    · have h1 : j ≥ k := by omega
      rw [if_neg hj]
      by_cases e : j = k
      · subst e
        simp [Nat.testBit_zero]
      · obtain ⟨d, hd⟩ : ∃ d, j - k = d + 1 := ⟨j - k - 1, by omega⟩
        rw [hd, Nat.testBit_succ, Nat.testBit_succ, show (2 * m + 1) / 2 = m by omega, show 2 * m / 2 = m by omega]
        simp [e]
theorem members_step {S : BitVec 64} (h : S ≠ 0#64) : members S = ctzB S :: members (S &&& (S - 1#64)) := by
  obtain ⟨h1, h2, h3, h4⟩ := low_facts h
  exact filter_first _ _ _ h2 h3 h4 64 h1
theorem clear_lt {S : BitVec 64} (h : S ≠ 0#64) : (S &&& (S - 1#64)).toNat < S.toNat := by
  have h0 := bv_ne h
  rw [BitVec.toNat_and, sub_one_bv h]
  exact Nat.lt_of_le_of_lt Nat.and_le_right (by omega)

/-- The library's table lies where its variable is. -/
def Tab (w : World) : Prop := TabAt 0 Lib.deBruijn64tab w
theorem Tab.go {w w' : World} (h : Tab w) (hb : Below w.heap.size w w') : Tab w' := fun j hj =>
  (Below.cell (p := ⟨0, j, none⟩) hb (World.block_lt_of_cell? w ⟨0, j, none⟩ (h j hj))).trans (h j hj)

set_option maxHeartbeats 1000000 in
theorem tz_core (x k idx : Nat) (w : World) (hx0 : ((x : Int) == 0) = false)
    (key : IntKind.u64.wrap (bits BinOp.and IntKind.u64 (x : Int) (IntKind.u64.wrap (-(x : Int))) * 285870213051353865) / 288230376151711744 = (idx : Int))
    (hi : idx < 64) (hk : k < 64) (hcell : w.cell? ⟨0, idx, none⟩ = some (.int .u8 k)) :
    Calls Tryd.prog 66 #[.int .u64 x] w fun e w' => e = .returned (.int .i64 k) ∧ w' = w := by
  go_enter Tryd.func66, Tryd.ntmps66
  go_wp2_with (simp only [key])
  go_ret
  exact ⟨rfl, rfl⟩
theorem tz_zero (w : World) : Calls Tryd.prog 66 #[.int .u64 0] w fun e w' => e = .returned (.int .i64 64) ∧ w' = w := by
  go_enter Tryd.func66, Tryd.ntmps66
  go_wp2
  go_ret
  exact ⟨rfl, rfl⟩
theorem tz_any (S : BitVec 64) (w : World) (hT : Tab w) : Calls Tryd.prog 66 #[bv S] w fun e w' => e = .returned (.int .i64 (ctzB S : Int)) ∧ w' = w := by
  have hx : S.toNat < 18446744073709551616 := S.isLt
  unfold ctzB
  show Calls Tryd.prog 66 #[.int .u64 (S.toNat : Int)] w _
  generalize S.toNat = x at *
  by_cases hx0 : x = 0
  · subst hx0
    exact tz_zero w
  · obtain ⟨hlow, hk⟩ := Lib.lowest_bit 64 x hx0 hx
    obtain ⟨hi, htab⟩ := Lib.deBruijn64_at _ hk
    have hcell := hT _ hi
    rw [htab] at hcell
    exact tz_core x _ _ w (by simp; omega) (tz64_key x _ hx hx0 hlow) hi hk hcell

/-- Numbers as ints. -/
def ints (l : List Nat) : List Int := l.map Int.ofNat
theorem ints_len (l : List Nat) : (ints l).length = l.length := List.length_map _

end Go.Proofs.YtfiaoibfejginaaDoor
