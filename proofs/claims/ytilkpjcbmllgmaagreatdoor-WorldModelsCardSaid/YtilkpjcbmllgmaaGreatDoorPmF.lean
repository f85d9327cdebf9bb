/- bits.OnesCount64 at sets of few worlds. Bytes: what a population count works out by bytes. math/bits.OnesCount64 at all sets: what the program works out is the number of the set's worlds. Lists of numbers that a call owns; keep.Ints at equal lists. Worlds, Size and Forget, of the program and of the reference, at lists of names whatever. Forget, of the reference and of the program, at lists of names whatever; All at what is no vocabulary. A cell with a list of names. Lists of strings wherever they lie; one more in an ascending list; append of a list that lies somewhere to a row that the call owns. The reference's insert: one more in an ascending list of strings. The reference's collect and Atoms. The reference's Size, Depth, kinds and names. The reference's value of a formula whose kinds fit: valueB, for a list of names that are true. The reference's Yes: the atoms that are true in a world; the models of a formula by them. The reference's Validate. The reference's Models and Entails. append of a whole list of formulas to an empty one that was just built: the copy is the call's own, the formulas lie where they lay. keep.SpoiltFormula: lists of formulas that it copies and appends to; what it leaves. -/
import Derived.Laws.OwnMore
import Derived.Deep.AppendLies
import Derived.Deep.RegionLaw
import Derived.Test.YtilkpjcbmllgmaaGreatDoorPmA
import Derived.Test.YtilkpjcbmllgmaaGreatDoorPmB
import Derived.Test.YtilkpjcbmllgmaaGreatDoorPmC
import Derived.Test.YtilkpjcbmllgmaaGreatDoorPmD
import Derived.Test.YtilkpjcbmllgmaaGreatDoorPmE

namespace Go.Proofs.YtilkpjcbmllgmaaGreatDoor
set_option linter.unusedVariables false
set_option linter.unusedSimpArgs false
open Go Go.RowKit

theorem bits_and_nat (a b : Nat) (ha : a < 18446744073709551616) (hb : b < 18446744073709551616) : bits .and .u64 (a : Int) (b : Int) = ((a &&& b : Nat) : Int) := by
  have h := bits_and_bv (BitVec.ofNat 64 a) (BitVec.ofNat 64 b)
  rw [BitVec.toNat_and, BitVec.toNat_ofNat, BitVec.toNat_ofNat, Nat.mod_eq_of_lt (by omega : a < 2 ^ 64), Nat.mod_eq_of_lt (by omega : b < 2 ^ 64)] at h
  exact h
theorem and_i64 (a : Nat) (ha : a < 9223372036854775808) : bits .and .i64 (a : Int) 127 = ((a % 128 : Nat) : Int) := by
  show IntKind.i64.wrap ((BitVec.ofInt 64 (a : Int) &&& BitVec.ofInt 64 ((127 : Nat) : Int)).toNat : Int) = _
  rw [BitVec.ofInt_natCast, BitVec.ofInt_natCast, BitVec.toNat_and, BitVec.toNat_ofNat, BitVec.toNat_ofNat, Nat.mod_eq_of_lt (by omega : a < 2 ^ 64)]
  have h : a &&& (127 % 2 ^ 64) = a % 128 := Nat.and_two_pow_sub_one_eq_mod a 7
  rw [h]
  have h1 : a % 128 < 128 := Nat.mod_lt _ (by omega)
  generalize a % 128 = n at h1
  simp [IntKind.wrap, IntKind.bits, IntKind.signed]
  omega
theorem wrap_nat (a : Nat) (ha : a < 18446744073709551616) : IntKind.u64.wrap (a : Int) = (a : Int) := by
  rw [IntKind.wrap_u64]
  omega
theorem wrap64_nat (a : Nat) (ha : a < 9223372036854775808) : wrap64 (a : Int) = (a : Int) := by
  unfold wrap64
  omega

/-- 'And' by bytes. -/
theorem land_byte (a b : Nat) : a &&& b = (a % 256 &&& b % 256) + 256 * (a / 256 &&& b / 256) := by
  have h1 := Nat.and_mod_two_pow (a := a) (b := b) (n := 8)
  have h2 := Nat.and_div_two_pow (a := a) (b := b) (n := 8)
  have e : (2 : Nat) ^ 8 = 256 := rfl
  rw [e] at h1 h2
  rw [← h1, ← h2]
  omega

theorem byte1 : ∀ b : Fin 256, ∀ c : Fin 2, ((b.val / 2 + 128 * c.val) &&& 85) = (b.val / 2 &&& 85) := by decide +kernel
theorem byte2 : ∀ b : Fin 256, ∀ c : Fin 4, ((b.val / 4 + 64 * c.val) &&& 51) = (b.val / 4 &&& 51) := by decide +kernel
theorem land_0 (l h M K N : Nat) (hl : l < 256) (hM : M = K + 256 * N) (hK : K < 256) : (l + 256 * h) &&& M = (l &&& K) + 256 * (h &&& N) := by
  rw [land_byte, show (l + 256 * h) % 256 = l by omega, show (l + 256 * h) / 256 = h by omega, show M % 256 = K by omega, show M / 256 = N by omega]
theorem land_1 (l h M N : Nat) (hl : l < 256) (hM : M = 85 + 256 * N) : (l + 256 * h) / 2 &&& M = (l / 2 &&& 85) + 256 * (h / 2 &&& N) := by
  rw [land_byte, show (l + 256 * h) / 2 % 256 = l / 2 + 128 * (h % 2) by omega, show (l + 256 * h) / 2 / 256 = h / 2 by omega, show M % 256 = 85 by omega, show M / 256 = N by omega]
  have := byte1 ⟨l, hl⟩ ⟨h % 2, by omega⟩
  rw [show ((l / 2 + 128 * (h % 2)) &&& 85) = (l / 2 &&& 85) from this]
theorem land_2 (l h M N : Nat) (hl : l < 256) (hM : M = 51 + 256 * N) : (l + 256 * h) / 4 &&& M = (l / 4 &&& 51) + 256 * (h / 4 &&& N) := by
  rw [land_byte, show (l + 256 * h) / 4 % 256 = l / 4 + 64 * (h % 4) by omega, show (l + 256 * h) / 4 / 256 = h / 4 by omega, show M % 256 = 51 by omega, show M / 256 = N by omega]
  have := byte2 ⟨l, hl⟩ ⟨h % 4, by omega⟩
  rw [show ((l / 4 + 64 * (h % 4)) &&& 51) = (l / 4 &&& 51) from this]

def t1 (b : Nat) : Nat := (b / 2 &&& 85) + (b &&& 85)
def t2 (b : Nat) : Nat := (b / 4 &&& 51) + (b &&& 51)
def pop (b : Nat) : Nat := t2 (t1 b) % 16 + t2 (t1 b) / 16
def byteOk (b : Nat) : Bool := decide (t1 b < 256) && decide (t2 (t1 b) % 16 ≤ 4) && decide (t2 (t1 b) / 16 ≤ 4) && decide (pop b + pop (255 - b) = 8)
theorem byte_F : ∀ b : Fin 256, byteOk b.val = true := by decide +kernel
theorem byte_ok (b : Nat) (h : b < 256) : t1 b < 256 ∧ t2 (t1 b) % 16 ≤ 4 ∧ t2 (t1 b) / 16 ≤ 4 ∧ pop b + pop (255 - b) = 8 := by
  have := byte_F ⟨b, h⟩
  simp only [byteOk, Bool.and_eq_true, decide_eq_true_eq] at this
  exact ⟨this.1.1.1, this.1.1.2, this.1.2, this.2⟩
theorem and15 (v : Nat) : v &&& 15 = v % 16 := Nat.and_two_pow_sub_one_eq_mod v 4

/-- Four bytes. -/
abbrev by4 (a b c d : Nat) : Nat := a + 256 * (b + 256 * (c + 256 * d))
theorem st1 (a b c d : Nat) (ha : a < 256) (hb : b < 256) (hc : c < 256) (hd : d < 256) : (by4 a b c d / 2 &&& 6148914691236517205) + (by4 a b c d &&& 6148914691236517205) = by4 (t1 a) (t1 b) (t1 c) (t1 d) := by
  unfold by4 t1
  rw [land_1 a _ _ 24019198012642645 ha (by omega), land_1 b _ _ 93824992236885 hb (by omega), land_1 c _ _ 366503875925 hc (by omega), land_0 a _ _ 85 24019198012642645 ha (by omega) (by omega), land_0 b _ _ 85 93824992236885 hb (by omega) (by omega), land_0 c _ _ 85 366503875925 hc (by omega) (by omega)]
  have e1 := land_1 d 0 366503875925 1431655765 hd (by omega)
  have e2 := land_0 d 0 366503875925 85 1431655765 hd (by omega) (by omega)
  simp only [Nat.mul_zero, Nat.add_zero, Nat.zero_div, Nat.zero_and] at e1 e2
  rw [e1, e2]
  omega
theorem st2 (a b c d : Nat) (ha : a < 256) (hb : b < 256) (hc : c < 256) (hd : d < 256) : (by4 a b c d / 4 &&& 3689348814741910323) + (by4 a b c d &&& 3689348814741910323) = by4 (t2 a) (t2 b) (t2 c) (t2 d) := by
  unfold by4 t2
  rw [land_2 a _ _ 14411518807585587 ha (by omega), land_2 b _ _ 56294995342131 hb (by omega), land_2 c _ _ 219902325555 hc (by omega), land_0 a _ _ 51 14411518807585587 ha (by omega) (by omega), land_0 b _ _ 51 56294995342131 hb (by omega) (by omega), land_0 c _ _ 51 219902325555 hc (by omega) (by omega)]
  have e1 := land_2 d 0 219902325555 858993459 hd (by omega)
  have e2 := land_0 d 0 219902325555 51 858993459 hd (by omega) (by omega)
  simp only [Nat.mul_zero, Nat.add_zero, Nat.zero_div, Nat.zero_and] at e1 e2
  rw [e1, e2]
  omega
theorem st3 (a b c d : Nat) (ha : a % 16 ≤ 4 ∧ a / 16 ≤ 4) (hb : b % 16 ≤ 4 ∧ b / 16 ≤ 4) (hc : c % 16 ≤ 4 ∧ c / 16 ≤ 4) (hd : d % 16 ≤ 4 ∧ d / 16 ≤ 4) :
    (by4 a b c d / 16 + by4 a b c d) &&& 1085102592571150095 = by4 (a % 16 + a / 16) (b % 16 + b / 16) (c % 16 + c / 16) (d % 16 + d / 16) := by
  have e : by4 a b c d / 16 + by4 a b c d = (a + a / 16 + 16 * (b % 16)) + 256 * ((b + b / 16 + 16 * (c % 16)) + 256 * ((c + c / 16 + 16 * (d % 16)) + 256 * (d + d / 16))) := by unfold by4; omega
  rw [e, land_0 _ _ _ 15 4238682002231055 (by omega) (by omega) (by omega), land_0 _ _ _ 15 16557351571215 (by omega) (by omega) (by omega), land_0 _ _ _ 15 64677154575 (by omega) (by omega) (by omega)]
  have e2 := land_0 (d + d / 16) 0 64677154575 15 252645135 (by omega) (by omega) (by omega)
  simp only [Nat.mul_zero, Nat.add_zero, Nat.zero_and] at e2
  rw [e2, and15, and15, and15, and15]
  have m0 : (a + a / 16 + 16 * (b % 16)) % 16 = a % 16 + a / 16 := by omega
  have m1 : (b + b / 16 + 16 * (c % 16)) % 16 = b % 16 + b / 16 := by omega
  have m2 : (c + c / 16 + 16 * (d % 16)) % 16 = c % 16 + c / 16 := by omega
  have m3 : (d + d / 16) % 16 = d % 16 + d / 16 := by omega
  rw [m0, m1, m2, m3]

/-- What the program works out. -/
def onesI (x : Int) : Int :=
  let a := IntKind.u64.wrap (bits .and .u64 (x / 2) 6148914691236517205 + bits .and .u64 x 6148914691236517205)
  let b := IntKind.u64.wrap (bits .and .u64 (a / 4) 3689348814741910323 + bits .and .u64 a 3689348814741910323)
  let c := bits .and .u64 (IntKind.u64.wrap (b / 16 + b)) 1085102592571150095
  let d := IntKind.u64.wrap (c + c / 256)
  let e := IntKind.u64.wrap (d + d / 65536)
  let f := IntKind.u64.wrap (e + e / 4294967296)
  bits .and .i64 (wrap64 f) 127

theorem ones_at (a b c d : Nat) (ha : a < 256) (hb : b < 256) (hc : c < 256) (hd : d < 256) : onesI ((by4 a b c d : Nat) : Int) = ((pop a + pop b + pop c + pop d : Nat) : Int) := by
  obtain ⟨a1, a2, a3, -⟩ := byte_ok a ha
  obtain ⟨b1, b2, b3, -⟩ := byte_ok b hb
  obtain ⟨c1, c2, c3, -⟩ := byte_ok c hc
  obtain ⟨d1, d2, d3, -⟩ := byte_ok d hd
  have s1 := st1 a b c d ha hb hc hd
  have s2 := st2 _ _ _ _ a1 b1 c1 d1
  have s3 := st3 _ _ _ _ ⟨a2, a3⟩ ⟨b2, b3⟩ ⟨c2, c3⟩ ⟨d2, d3⟩
  have hX : by4 a b c d < 4294967296 := by unfold by4; omega
  have hA : by4 (t1 a) (t1 b) (t1 c) (t1 d) < 4294967296 := by unfold by4; omega
  have hB : by4 (t2 (t1 a)) (t2 (t1 b)) (t2 (t1 c)) (t2 (t1 d)) < 4294967296 := by unfold by4; omega
  unfold pop
  generalize t2 (t1 a) = a' at *
  generalize t2 (t1 b) = b' at *
  generalize t2 (t1 c) = c' at *
  generalize t2 (t1 d) = d' at *
  generalize by4 (t1 a) (t1 b) (t1 c) (t1 d) = A at *
  generalize by4 a' b' c' d' = B at *
  generalize by4 a b c d = X at *
  have q1 : IntKind.u64.wrap (bits .and .u64 ((X : Int) / 2) 6148914691236517205 + bits .and .u64 (X : Int) 6148914691236517205) = (A : Int) := by
    have h1 := bits_and_nat (X / 2) 6148914691236517205 (by omega) (by omega)
    have h2 := bits_and_nat X 6148914691236517205 (by omega) (by omega)
    have e1 : ((X / 2 : Nat) : Int) = (X : Int) / 2 := by omega
    rw [e1] at h1
    rw [show bits .and .u64 ((X : Int) / 2) 6148914691236517205 = _ from h1, show bits .and .u64 (X : Int) 6148914691236517205 = _ from h2, ← Int.natCast_add, s1, wrap_nat _ (by omega)]
  have q2 : IntKind.u64.wrap (bits .and .u64 ((A : Int) / 4) 3689348814741910323 + bits .and .u64 (A : Int) 3689348814741910323) = (B : Int) := by
    have h1 := bits_and_nat (A / 4) 3689348814741910323 (by omega) (by omega)
    have h2 := bits_and_nat A 3689348814741910323 (by omega) (by omega)
    have e1 : ((A / 4 : Nat) : Int) = (A : Int) / 4 := by omega
    rw [e1] at h1
    rw [show bits .and .u64 ((A : Int) / 4) 3689348814741910323 = _ from h1, show bits .and .u64 (A : Int) 3689348814741910323 = _ from h2, ← Int.natCast_add, s2, wrap_nat _ (by omega)]
  have q3 : bits .and .u64 (IntKind.u64.wrap ((B : Int) / 16 + (B : Int))) 1085102592571150095 = ((by4 (a' % 16 + a' / 16) (b' % 16 + b' / 16) (c' % 16 + c' / 16) (d' % 16 + d' / 16) : Nat) : Int) := by
    have e1 : (B : Int) / 16 + (B : Int) = ((B / 16 + B : Nat) : Int) := by omega
    rw [e1, wrap_nat _ (by omega)]
    have h1 := bits_and_nat (B / 16 + B) 1085102592571150095 (by omega) (by omega)
    rw [show bits .and .u64 ((B / 16 + B : Nat) : Int) 1085102592571150095 = _ from h1, s3]
  simp only [onesI]
  rw [q1, q2, q3]
  clear q1 q2 q3 s1 s2 s3
  obtain ⟨p0, h0⟩ : ∃ p, p = a' % 16 + a' / 16 := ⟨_, rfl⟩
  obtain ⟨p1, h1⟩ : ∃ p, p = b' % 16 + b' / 16 := ⟨_, rfl⟩
  obtain ⟨p2, h2⟩ : ∃ p, p = c' % 16 + c' / 16 := ⟨_, rfl⟩
  obtain ⟨p3, h3⟩ : ∃ p, p = d' % 16 + d' / 16 := ⟨_, rfl⟩
  have k0 : p0 ≤ 8 := by omega
  have k1 : p1 ≤ 8 := by omega
  have k2 : p2 ≤ 8 := by omega
  have k3 : p3 ≤ 8 := by omega
  rw [← h0, ← h1, ← h2, ← h3]
  clear h0 h1 h2 h3 a2 a3 b2 b3 c2 c3 d2 d3 hX hA hB a1 b1 c1 d1
  have f1 : ((by4 p0 p1 p2 p3 : Nat) : Int) + ((by4 p0 p1 p2 p3 : Nat) : Int) / 256 = (((p0 + p1) + 256 * ((p1 + p2) + 256 * ((p2 + p3) + 256 * p3)) : Nat) : Int) := by
    unfold by4
    have : (p0 + 256 * (p1 + 256 * (p2 + 256 * p3))) / 256 = p1 + 256 * (p2 + 256 * p3) := by omega
    omega
  rw [f1, wrap_nat _ (by omega)]
  have f2 : (((p0 + p1) + 256 * ((p1 + p2) + 256 * ((p2 + p3) + 256 * p3)) : Nat) : Int) + (((p0 + p1) + 256 * ((p1 + p2) + 256 * ((p2 + p3) + 256 * p3)) : Nat) : Int) / 65536 = (((p0 + p1 + p2 + p3) + 256 * ((p1 + p2 + p3) + 256 * ((p2 + p3) + 256 * p3)) : Nat) : Int) := by
    have : ((p0 + p1) + 256 * ((p1 + p2) + 256 * ((p2 + p3) + 256 * p3))) / 65536 = (p2 + p3) + 256 * p3 := by omega
    omega
  rw [f2, wrap_nat _ (by omega)]
  have f3 : (((p0 + p1 + p2 + p3) + 256 * ((p1 + p2 + p3) + 256 * ((p2 + p3) + 256 * p3)) : Nat) : Int) + (((p0 + p1 + p2 + p3) + 256 * ((p1 + p2 + p3) + 256 * ((p2 + p3) + 256 * p3)) : Nat) : Int) / 4294967296 = (((p0 + p1 + p2 + p3) + 256 * ((p1 + p2 + p3) + 256 * ((p2 + p3) + 256 * p3)) : Nat) : Int) := by omega
  rw [f3, wrap_nat _ (by omega), wrap64_nat _ (by omega), and_i64 _ (by omega)]
  omega

set_option maxHeartbeats 1000000 in
theorem ones_any (S : BitVec 64) (w : World) : Calls Tryz.prog 75 #[bv S] w fun e w' => e = .returned (.int .i64 (onesI (S.toNat : Int))) ∧ w' = w := by
  have hsgn := sgnU
  go_enter Tryz.func75, Tryz.ntmps75
  go_wp2
  go_ret
  exact ⟨ret_i64 rfl, rfl⟩
set_option maxHeartbeats 1000000 in
theorem wsize_any (S : BitVec 64) (w : World) : Calls Tryz.prog 34 #[bv S] w fun e w' => e = .returned (.int .i64 (onesI (S.toNat : Int))) ∧ w' = w := by
  go_enter Tryz.func34, Tryz.ntmps34
  go_wp2_with fail
  refine (ones_any S w).mono ?_
  rintro e w' ⟨rfl, rfl⟩
  go_wp2_with fail
  go_ret
  exact ⟨rfl, rfl⟩

theorem allS_bits : ∀ j : Fin 64, (4294967295#64).getLsbD j.val = decide (j.val < 32) := by decide +kernel
/-- A set of worlds of five atoms and its complement have 32 worlds together. -/
theorem ones_both (A : BitVec 64) (hA : A &&& allS 5 = A) : onesI (A.toNat : Int) + onesI ((allS 5 &&& ~~~A).toNat : Int) = 32 ∧ 0 ≤ onesI (A.toNat : Int) ∧ onesI (A.toNat : Int) ≤ 32 := by
  have hall : allS 5 = 4294967295#64 := by decide +kernel
  rw [hall] at hA ⊢
  have h1 : A.toNat < 4294967296 := by
    have h := congrArg BitVec.toNat hA
    rw [BitVec.toNat_and] at h
    have := @Nat.and_le_right A.toNat (4294967295#64).toNat
    rw [h] at this
    have e : (4294967295#64).toNat = 4294967295 := rfl
    omega
  have h2 : (4294967295#64 &&& ~~~A).toNat = 4294967295 - A.toNat := by
    have e : 4294967295#64 &&& ~~~A = BitVec.ofNat 64 (2 ^ 32 - (A.toNat + 1)) := set_ext fun j hj => by
      have hr : (BitVec.ofNat 64 (2 ^ 32 - (A.toNat + 1))).getLsbD j = (decide (j < 64) && (decide (j < 32) && !A.toNat.testBit j)) := by rw [BitVec.getLsbD_ofNat, Nat.testBit_two_pow_sub_succ (by omega)]
      rw [hr, BitVec.getLsbD_and, BitVec.getLsbD_not, show (4294967295#64).getLsbD j = decide (j < 32) from allS_bits ⟨j, hj⟩, BitVec.testBit_toNat, decide_eq_true hj]
      cases decide (j < 32) <;> simp
    rw [e, BitVec.toNat_ofNat]
    omega
  have e1 : A.toNat = by4 (A.toNat % 256) (A.toNat / 256 % 256) (A.toNat / 65536 % 256) (A.toNat / 16777216) := by unfold by4; omega
  have e2 : 4294967295 - A.toNat = by4 (255 - A.toNat % 256) (255 - A.toNat / 256 % 256) (255 - A.toNat / 65536 % 256) (255 - A.toNat / 16777216) := by unfold by4; omega
  have k0 : A.toNat % 256 < 256 := by omega
  have k1 : A.toNat / 256 % 256 < 256 := by omega
  have k2 : A.toNat / 65536 % 256 < 256 := by omega
  have k3 : A.toNat / 16777216 < 256 := by omega
  rw [h2, e2, show onesI (A.toNat : Int) = onesI ((by4 (A.toNat % 256) (A.toNat / 256 % 256) (A.toNat / 65536 % 256) (A.toNat / 16777216) : Nat) : Int) by rw [← e1]]
  clear e1 e2 h2
  generalize A.toNat % 256 = a at *
  generalize A.toNat / 256 % 256 = b at *
  generalize A.toNat / 65536 % 256 = c at *
  generalize A.toNat / 16777216 = d at *
  rw [ones_at a b c d k0 k1 k2 k3, ones_at (255 - a) (255 - b) (255 - c) (255 - d) (by omega) (by omega) (by omega) (by omega)]
  have p0 := (byte_ok a k0).2.2.2
  have p1 := (byte_ok b k1).2.2.2
  have p2 := (byte_ok c k2).2.2.2
  have p3 := (byte_ok d k3).2.2.2
  omega
end Go.Proofs.YtilkpjcbmllgmaaGreatDoor

namespace Go.Proofs.YtilkpjcbmllgmaaGreatDoor
set_option linter.unusedVariables false
set_option linter.unusedSimpArgs false
open Go Go.RowKit

/-- Bytes, the lowest first. -/
def byL : List Nat → Nat
  | [] => 0
  | a :: l => a + 256 * byL l
/-- One byte, n times. -/
def rpt (m : Nat) : Nat → Nat
  | 0 => 0
  | n + 1 => m + 256 * rpt m n

theorem st1L : ∀ l : List Nat, (∀ b ∈ l, b < 256) → (byL l / 2 &&& rpt 85 l.length) + (byL l &&& rpt 85 l.length) = byL (l.map t1)
  | [], _ => by simp [byL, rpt]
  | a :: l, h => by
    have ih := st1L l fun b hb => h b (by simp [hb])
    have ha := h a (by simp)
    simp only [byL, List.length_cons, rpt, List.map_cons]
    rw [land_1 a _ _ (rpt 85 l.length) ha rfl, land_0 a _ _ 85 (rpt 85 l.length) ha rfl (by omega), ← ih]
    unfold t1
    omega
theorem st2L : ∀ l : List Nat, (∀ b ∈ l, b < 256) → (byL l / 4 &&& rpt 51 l.length) + (byL l &&& rpt 51 l.length) = byL (l.map t2)
  | [], _ => by simp [byL, rpt]
  | a :: l, h => by
    have ih := st2L l fun b hb => h b (by simp [hb])
    have ha := h a (by simp)
    simp only [byL, List.length_cons, rpt, List.map_cons]
    rw [land_2 a _ _ (rpt 51 l.length) ha rfl, land_0 a _ _ 51 (rpt 51 l.length) ha rfl (by omega), ← ih]
    unfold t2
    omega
def nib (a : Nat) : Nat := a % 16 + a / 16
theorem byL_low : ∀ l : List Nat, (∀ b ∈ l, b % 16 ≤ 4 ∧ b / 16 ≤ 4) → byL l % 16 ≤ 4
  | [], _ => by simp [byL]
  | a :: l, h => by
    have ha := h a (by simp)
    simp only [byL]
    omega
theorem st3L : ∀ l : List Nat, (∀ b ∈ l, b % 16 ≤ 4 ∧ b / 16 ≤ 4) → (byL l / 16 + byL l) &&& rpt 15 l.length = byL (l.map nib)
  | [], _ => by simp [byL, rpt]
  | a :: l, h => by
    have h' : ∀ b ∈ l, b % 16 ≤ 4 ∧ b / 16 ≤ 4 := fun b hb => h b (by simp [hb])
    have ih := st3L l h'
    have hl := byL_low l h'
    have ha := h a (by simp)
    simp only [byL, List.length_cons, rpt, List.map_cons]
    have e : (a + 256 * byL l) / 16 + (a + 256 * byL l) = (a + a / 16 + 16 * (byL l % 16)) + 256 * (byL l / 16 + byL l) := by omega
    rw [e, land_0 _ _ _ 15 (rpt 15 l.length) (by omega) rfl (by omega), ih, and15]
    unfold nib
    omega

theorem byL_lt : ∀ l : List Nat, (∀ b ∈ l, b < 256) → byL l < 256 ^ l.length
  | [], _ => by simp [byL]
  | a :: l, h => by
    have ih := byL_lt l fun b hb => h b (by simp [hb])
    have ha := h a (by simp)
    simp only [byL, List.length_cons, Nat.pow_succ]
    omega
theorem byL_le (m : Nat) : ∀ l : List Nat, (∀ b ∈ l, b ≤ m) → byL l ≤ rpt m l.length
  | [], _ => by simp [byL, rpt]
  | a :: l, h => by
    have ih := byL_le m l fun b hb => h b (by simp [hb])
    have ha := h a (by simp)
    simp only [byL, List.length_cons, rpt]
    omega

/-- The number's bits among the first n. -/
def cntN (x n : Nat) : Nat := (List.range n).countP fun j => x.testBit j
theorem cntN_byte (a R n : Nat) (ha : a < 256) : cntN (a + 256 * R) (8 + n) = cntN a 8 + cntN R n := by
  unfold cntN
  rw [List.range_add, List.countP_append, List.countP_map]
  have e : a + 256 * R = 2 ^ 8 * R + a := by omega
  congr 1
  · refine List.countP_congr fun j hj => ?_
    rw [List.mem_range] at hj
    rw [e, Nat.testBit_two_pow_mul_add R (by omega)]
    simp [hj]
  · refine List.countP_congr fun j hj => ?_
    simp only [Function.comp]
    rw [e, Nat.testBit_two_pow_mul_add R (by omega)]
    simp
    intro h
    omega
theorem pop_F : ∀ b : Fin 256, pop b.val = cntN b.val 8 := by decide +kernel
theorem cnt_byL : ∀ l : List Nat, (∀ b ∈ l, b < 256) → cntN (byL l) (8 * l.length) = (l.map pop).sum
  | [], _ => by simp [cntN]
  | a :: l, h => by
    have ih := cnt_byL l fun b hb => h b (by simp [hb])
    have ha := h a (by simp)
    simp only [byL, List.length_cons, List.map_cons, List.sum_cons]
    rw [show 8 * (l.length + 1) = 8 + 8 * l.length by omega, cntN_byte a _ _ ha, ih]
    congr 1
    exact (pop_F ⟨a, ha⟩).symm

theorem byL_bytes (x : Nat) (hx : x < 18446744073709551616) : ∃ a b c d e f g h : Nat, (∀ y ∈ [a, b, c, d, e, f, g, h], y < 256) ∧ x = byL [a, b, c, d, e, f, g, h] := by
  refine ⟨x % 256, x / 256 % 256, x / 65536 % 256, x / 16777216 % 256, x / 4294967296 % 256, x / 1099511627776 % 256, x / 281474976710656 % 256, x / 72057594037927936, ?_, ?_⟩
  · intro y hy
    simp only [List.mem_cons, List.not_mem_nil, or_false] at hy
    omega
  · simp only [byL]
    omega

theorem byL_div (a : Nat) (l : List Nat) (h : a < 256) : byL (a :: l) / 256 = byL l := by
  simp only [byL]
  omega
theorem byL_div2 (a b : Nat) (l : List Nat) (h : a < 256) (h' : b < 256) : byL (a :: b :: l) / 65536 = byL l := by
  rw [show 65536 = 256 * 256 from rfl, ← Nat.div_div_eq_div_mul, byL_div a _ h, byL_div b _ h']
theorem byL_div4 (a b c d : Nat) (l : List Nat) (h : a < 256) (h' : b < 256) (h2 : c < 256) (h3 : d < 256) : byL (a :: b :: c :: d :: l) / 4294967296 = byL l := by
  rw [show 4294967296 = 65536 * 65536 from rfl, ← Nat.div_div_eq_div_mul, byL_div2 a b _ h h', byL_div2 c d _ h2 h3]
theorem byL_small (m : Nat) (l : List Nat) (hm : m ≤ 64) (hl : l.length = 8) (h : ∀ b ∈ l, b ≤ m) : byL l ≤ 4629771061636907072 := by
  have h1 := byL_le 64 l fun b hb => Nat.le_trans (h b hb) hm
  rw [hl] at h1
  have : rpt 64 8 = 4629771061636907072 := by decide
  omega
end Go.Proofs.YtilkpjcbmllgmaaGreatDoor

namespace Go.Proofs.YtilkpjcbmllgmaaGreatDoor
set_option linter.unusedVariables false
set_option linter.unusedSimpArgs false
open Go Go.RowKit

theorem ones_all (x : Nat) (hx : x < 18446744073709551616) : onesI (x : Int) = ((cntN x 64 : Nat) : Int) := by
  obtain ⟨a, b, c, d, e, f, g, h, hl, rfl⟩ := byL_bytes x hx
  generalize hL : [a, b, c, d, e, f, g, h] = L at *
  have hlen : L.length = 8 := by rw [← hL]; rfl
  have hc := cnt_byL L hl
  have s1 := st1L L hl
  have hl1 : ∀ y ∈ L.map t1, y < 256 := fun y hy => by
    obtain ⟨z, hz, rfl⟩ := List.mem_map.1 hy
    exact (byte_ok z (hl z hz)).1
  have s2 := st2L (L.map t1) hl1
  have hl2 : ∀ y ∈ (L.map t1).map t2, y % 16 ≤ 4 ∧ y / 16 ≤ 4 := fun y hy => by
    obtain ⟨z, hz, rfl⟩ := List.mem_map.1 hy
    obtain ⟨u, hu, rfl⟩ := List.mem_map.1 hz
    exact ⟨(byte_ok u (hl u hu)).2.1, (byte_ok u (hl u hu)).2.2.1⟩
  have s3 := st3L ((L.map t1).map t2) hl2
  have hl2' : ∀ y ∈ (L.map t1).map t2, y < 256 := fun y hy => by have := hl2 y hy; omega
  have hA : byL (L.map t1) < 18446744073709551616 := by
    have := byL_lt _ hl1
    rw [List.length_map, hlen] at this
    exact this
  have hB : byL ((L.map t1).map t2) ≤ rpt 68 8 := by
    have := byL_le 68 _ (fun y hy => by have := hl2 y hy; omega : ∀ y ∈ (L.map t1).map t2, y ≤ 68)
    rw [List.length_map, List.length_map, hlen] at this
    exact this
  have hB' : rpt 68 8 = 4919131752989213764 := by decide
  rw [hB'] at hB
  simp only [List.length_map, hlen] at s1 s2 s3 hc
  have r85 : rpt 85 8 = 6148914691236517205 := by decide
  have r51 : rpt 51 8 = 3689348814741910323 := by decide
  have r15 : rpt 15 8 = 1085102592571150095 := by decide
  rw [r85] at s1
  rw [r51] at s2
  rw [r15] at s3
  have hp : ((L.map t1).map t2).map nib = L.map pop := by
    rw [List.map_map, List.map_map]
    rfl
  rw [hp] at s3
  have h8 : ∀ y ∈ L.map pop, y ≤ 8 := fun y hy => by
    obtain ⟨z, hz, rfl⟩ := List.mem_map.1 hy
    have := (byte_ok z (hl z hz)).2
    unfold pop
    omega
  rw [show 8 * 8 = 64 from rfl] at hc
  rw [hc]
  have q1 : IntKind.u64.wrap (bits .and .u64 ((byL L : Int) / 2) 6148914691236517205 + bits .and .u64 (byL L : Int) 6148914691236517205) = (byL (L.map t1) : Int) := by
    have h1 := bits_and_nat (byL L / 2) 6148914691236517205 (by omega) (by omega)
    have h2 := bits_and_nat (byL L) 6148914691236517205 (by omega) (by omega)
    have e1 : ((byL L / 2 : Nat) : Int) = (byL L : Int) / 2 := by omega
    rw [e1] at h1
    rw [show bits .and .u64 ((byL L : Int) / 2) 6148914691236517205 = _ from h1, show bits .and .u64 (byL L : Int) 6148914691236517205 = _ from h2, ← Int.natCast_add, s1, wrap_nat _ hA]
  generalize byL (L.map t1) = A at *
  have q2 : IntKind.u64.wrap (bits .and .u64 ((A : Int) / 4) 3689348814741910323 + bits .and .u64 (A : Int) 3689348814741910323) = (byL ((L.map t1).map t2) : Int) := by
    have h1 := bits_and_nat (A / 4) 3689348814741910323 (by omega) (by omega)
    have h2 := bits_and_nat A 3689348814741910323 (by omega) (by omega)
    have e1 : ((A / 4 : Nat) : Int) = (A : Int) / 4 := by omega
    rw [e1] at h1
    rw [show bits .and .u64 ((A : Int) / 4) 3689348814741910323 = _ from h1, show bits .and .u64 (A : Int) 3689348814741910323 = _ from h2, ← Int.natCast_add, s2, wrap_nat _ (by omega)]
  generalize byL ((L.map t1).map t2) = B at *
  have q3 : bits .and .u64 (IntKind.u64.wrap ((B : Int) / 16 + (B : Int))) 1085102592571150095 = ((byL (L.map pop) : Nat) : Int) := by
    have e1 : (B : Int) / 16 + (B : Int) = ((B / 16 + B : Nat) : Int) := by omega
    rw [e1, wrap_nat _ (by omega)]
    have h1 := bits_and_nat (B / 16 + B) 1085102592571150095 (by omega) (by omega)
    rw [show bits .and .u64 ((B / 16 + B : Nat) : Int) 1085102592571150095 = _ from h1, s3]
  simp only [onesI]
  rw [q1, q2, q3]
  clear q1 q2 q3 s1 s2 s3 hc hA hB hB' r85 r51 r15 hp hl1 hl2 hl2' hlen
  subst hL
  simp only [List.map_cons, List.map_nil, List.mem_cons, List.not_mem_nil, or_false, forall_eq_or_imp, forall_eq] at h8
  simp only [List.map_cons, List.map_nil, List.sum_cons, List.sum_nil, Nat.add_zero]
  obtain ⟨k0, k1, k2, k3, k4, k5, k6, k7⟩ := h8
  generalize pop a = p0 at *
  generalize pop b = p1 at *
  generalize pop c = p2 at *
  generalize pop d = p3 at *
  generalize pop e = p4 at *
  generalize pop f = p5 at *
  generalize pop g = p6 at *
  generalize pop h = p7 at *
  clear hl hx
  have g1 : byL [p0, p1, p2, p3, p4, p5, p6, p7] + byL [p1, p2, p3, p4, p5, p6, p7] = byL [p0 + p1, p1 + p2, p2 + p3, p3 + p4, p4 + p5, p5 + p6, p6 + p7, p7] := by
    simp only [byL, Nat.mul_zero, Nat.add_zero]
    omega
  have g2 : byL [p0 + p1, p1 + p2, p2 + p3, p3 + p4, p4 + p5, p5 + p6, p6 + p7, p7] + byL [p2 + p3, p3 + p4, p4 + p5, p5 + p6, p6 + p7, p7] = byL [p0 + p1 + (p2 + p3), p1 + p2 + (p3 + p4), p2 + p3 + (p4 + p5), p3 + p4 + (p5 + p6), p4 + p5 + (p6 + p7), p5 + p6 + p7, p6 + p7, p7] := by
    simp only [byL, Nat.mul_zero, Nat.add_zero]
    omega
  have g3 : byL [p0 + p1 + (p2 + p3), p1 + p2 + (p3 + p4), p2 + p3 + (p4 + p5), p3 + p4 + (p5 + p6), p4 + p5 + (p6 + p7), p5 + p6 + p7, p6 + p7, p7] + byL [p4 + p5 + (p6 + p7), p5 + p6 + p7, p6 + p7, p7] = byL [p0 + p1 + (p2 + p3) + (p4 + p5 + (p6 + p7)), p1 + p2 + (p3 + p4) + (p5 + p6 + p7), p2 + p3 + (p4 + p5) + (p6 + p7), p3 + p4 + (p5 + p6) + p7, p4 + p5 + (p6 + p7), p5 + p6 + p7, p6 + p7, p7] := by
    simp only [byL, Nat.mul_zero, Nat.add_zero]
    omega
  have b1 := byL_small 16 [p0 + p1, p1 + p2, p2 + p3, p3 + p4, p4 + p5, p5 + p6, p6 + p7, p7] (by omega) rfl (by
    intro y hy
    simp only [List.mem_cons, List.not_mem_nil, or_false] at hy
    omega)
  have b2 := byL_small 32 [p0 + p1 + (p2 + p3), p1 + p2 + (p3 + p4), p2 + p3 + (p4 + p5), p3 + p4 + (p5 + p6), p4 + p5 + (p6 + p7), p5 + p6 + p7, p6 + p7, p7] (by omega) rfl (by
    intro y hy
    simp only [List.mem_cons, List.not_mem_nil, or_false] at hy
    omega)
  have b3 := byL_small 64 [p0 + p1 + (p2 + p3) + (p4 + p5 + (p6 + p7)), p1 + p2 + (p3 + p4) + (p5 + p6 + p7), p2 + p3 + (p4 + p5) + (p6 + p7), p3 + p4 + (p5 + p6) + p7, p4 + p5 + (p6 + p7), p5 + p6 + p7, p6 + p7, p7] (by omega) rfl (by
    intro y hy
    simp only [List.mem_cons, List.not_mem_nil, or_false] at hy
    omega)
  have d1 := byL_div p0 [p1, p2, p3, p4, p5, p6, p7] (by omega)
  have d2 := byL_div2 (p0 + p1) (p1 + p2) [p2 + p3, p3 + p4, p4 + p5, p5 + p6, p6 + p7, p7] (by omega) (by omega)
  have d3 := byL_div4 (p0 + p1 + (p2 + p3)) (p1 + p2 + (p3 + p4)) (p2 + p3 + (p4 + p5)) (p3 + p4 + (p5 + p6)) [p4 + p5 + (p6 + p7), p5 + p6 + p7, p6 + p7, p7] (by omega) (by omega) (by omega) (by omega)
  have m3 : byL [p0 + p1 + (p2 + p3) + (p4 + p5 + (p6 + p7)), p1 + p2 + (p3 + p4) + (p5 + p6 + p7), p2 + p3 + (p4 + p5) + (p6 + p7), p3 + p4 + (p5 + p6) + p7, p4 + p5 + (p6 + p7), p5 + p6 + p7, p6 + p7, p7] % 128 = p0 + p1 + (p2 + p3) + (p4 + p5 + (p6 + p7)) := by
    show (p0 + p1 + (p2 + p3) + (p4 + p5 + (p6 + p7)) + 256 * byL [p1 + p2 + (p3 + p4) + (p5 + p6 + p7), p2 + p3 + (p4 + p5) + (p6 + p7), p3 + p4 + (p5 + p6) + p7, p4 + p5 + (p6 + p7), p5 + p6 + p7, p6 + p7, p7]) % 128 = _
    generalize byL [p1 + p2 + (p3 + p4) + (p5 + p6 + p7), p2 + p3 + (p4 + p5) + (p6 + p7), p3 + p4 + (p5 + p6) + p7, p4 + p5 + (p6 + p7), p5 + p6 + p7, p6 + p7, p7] = R
    omega
  rw [d1.symm] at g1
  rw [d2.symm] at g2
  rw [d3.symm] at g3
  generalize byL [p0, p1, p2, p3, p4, p5, p6, p7] = C at *
  generalize byL [p0 + p1, p1 + p2, p2 + p3, p3 + p4, p4 + p5, p5 + p6, p6 + p7, p7] = D at *
  generalize byL [p0 + p1 + (p2 + p3), p1 + p2 + (p3 + p4), p2 + p3 + (p4 + p5), p3 + p4 + (p5 + p6), p4 + p5 + (p6 + p7), p5 + p6 + p7, p6 + p7, p7] = E at *
  generalize byL [p0 + p1 + (p2 + p3) + (p4 + p5 + (p6 + p7)), p1 + p2 + (p3 + p4) + (p5 + p6 + p7), p2 + p3 + (p4 + p5) + (p6 + p7), p3 + p4 + (p5 + p6) + p7, p4 + p5 + (p6 + p7), p5 + p6 + p7, p6 + p7, p7] = G at *
  have f1 : (C : Int) + (C : Int) / 256 = (D : Int) := by omega
  rw [f1, wrap_nat _ (by omega)]
  have f2 : (D : Int) + (D : Int) / 65536 = (E : Int) := by omega
  rw [f2, wrap_nat _ (by omega)]
  have f3 : (E : Int) + (E : Int) / 4294967296 = (G : Int) := by omega
  rw [f3, wrap_nat _ (by omega), wrap64_nat _ (by omega), and_i64 _ (by omega), m3]
  omega
end Go.Proofs.YtilkpjcbmllgmaaGreatDoor

namespace Go.Proofs.YtilkpjcbmllgmaaGreatDoor
set_option linter.unusedVariables false
set_option linter.unusedSimpArgs false
open Go Go.RowKit

theorem infoInt : (Tryz.prog.info? 3).map (fun i => (i.zero, i.size, i.bytes)) = some (some (.int .i64 0), 1, 8) := by kernel_rfl

/-- The value is a list of numbers that the call owns, from block B on. -/
def OwnI (w : World) (B : Nat) (v : Value) (l : List Int) : Prop := w.ownsRow B 3 1 v l.length (l.map (Value.int .i64))
section
variable {w w' : World} {B : Nat} {v : Value} {l : List Int}
theorem OwnI.block (h : OwnI w B v l) : ∀ g, v.ownBlock = some g → B ≤ g ∧ g < w.heap.size := World.ownsRow.lt h
theorem OwnI.nil (w : World) (B : Nat) : OwnI w B (.slice none 0 0) [] := World.ownsRow_nil w B _ _
theorem OwnI.kept {row : Option Nat} (h : OwnI w B v l) (hg : w.grownBy w' row) (hr : ∀ g, row = some g → g < B) : OwnI w' B v l := by
  refine World.ownsRow.kept h hg ?_
  cases hv : v.ownBlock with
  | none => exact .inl rfl
  | some g =>
    refine .inr (fun e => ?_)
    have h2 := (h.block g hv).1
    have h3 := hr g e.symm
    omega
theorem OwnI.go (h : OwnI w B v l) (hb : Below w.heap.size w w') : OwnI w' B v l := h.kept (only_of_below hb none) (fun g e => by cases e)
theorem OwnI.alloc (h : OwnI w B v l) (o : Obj) : OwnI (w.alloc o) B v l := h.go ((Below.refl _ _).alloc (Nat.le_refl _) o)
end

/-- A list of numbers. -/
def IntsRow (w : World) (v : Value) (l : List Int) : Prop := ∃ (a : Option Addr) (c b off : Nat), v = .slice a l.length c ∧ (0 < l.length → a = some ⟨b, off, none⟩) ∧ ∀ i (h : i < l.length), w.cell? ⟨b, off + i, none⟩ = some (.int .i64 l[i])
theorem IntsRow.go {w w' : World} {v : Value} {l : List Int} (h : IntsRow w v l) (hb : Below w.heap.size w w') : IntsRow w' v l := by
  obtain ⟨a, c, b, off, h1, h2, h3⟩ := h
  exact ⟨a, c, b, off, h1, h2, fun i hi => (hb.cell (p := ⟨b, off + i, none⟩) (World.block_lt_of_cell? w ⟨b, off + i, none⟩ (h3 i hi))).trans (h3 i hi)⟩
theorem OwnI.row {w : World} {B : Nat} {v : Value} {l : List Int} (h : OwnI w B v l) : IntsRow w v l := by
  rcases h.2 with ⟨rfl, h0⟩ | ⟨g, cap, cur, rfl, hB, hg, hnc, hcm, hcs, htake⟩
  · obtain rfl : l = [] := List.eq_nil_of_length_eq_zero h0
    exact ⟨none, 0, 0, 0, rfl, fun h => by simp at h, fun i h => by simp at h⟩
  · refine ⟨_, cap, g, 0, rfl, fun _ => rfl, fun i hi => ?_⟩
    have := World.ownsRow.cells h (g := g) rfl i (.int .i64 l[i]) (by simp [List.getElem?_eq_getElem hi])
    have e : (⟨g, 0, none⟩ : Addr).add i = ⟨g, 0 + i, none⟩ := by unfold Addr.add; split <;> simp_all
    rwa [e] at this

/-- append of one number, which lies in a row of its own. -/
theorem wpList_append_int {w : World} {ops : Array Oper} {rest : List Oper} {o : Oper} {a : Act} {Q : Exit → Act → World → Prop} (hgd : o.guard = none) (s x : Operand)
    (ho : o.op = .call { callee := .builtin .append, args := #[s, x], argTypes := #[26, 26] }) (B : Nat) (v : Value) (l : List Int) (hs : a.eval s = v) (hown : OwnI w B v l)
    (m c1 : Nat) (hx : a.eval x = .slice (some ⟨m, 0, none⟩) 1 c1) {t : Int} {ty : TypeId} (hm : w.heap[m]? = some (.cells #[.int .i64 t] ty (0, 0))) (hlen : l.length ≤ 1000000) (hB : B ≤ w.heap.size)
    (h : ∀ v' w', OwnI w' B v' (l ++ [t]) → w.grownBy w' v.ownBlock → wpList Tryz.prog ops Q rest (a.put o.dst v') w') : wpList Tryz.prog ops Q (o :: rest) a w := by
  obtain ⟨i0, hi, hz0, hz1, hz2⟩ := info_parts infoInt
  refine wpList_append_own w hgd s x 26 ho B 3 i0 _ 1 8 Tryz.underlying26 hi hz0 hz1 hz2 rfl (by decide) v l.length _ hs hown ⟨m, 0, none⟩ 1 c1 [.int .i64 t] hx rfl ?_ (fun u hu => by rw [List.mem_singleton.1 hu]; rfl) (by unfold maxLen; omega) (by omega) hB (fun v' w' h2 h3 _ => ?_)
  · intro j u hj
    match j, hj with
    | 0, hj =>
      simp only [List.getElem?_cons_zero, Option.some.injEq] at hj
      rw [← hj]
      have e : (⟨m, 0, none⟩ : Addr).add 0 = ⟨m, 0, none⟩ := rfl
      rw [e]
      exact cell_one0 hm
    | j + 1, hj => simp at hj
  · refine h v' w' ?_ h3
    unfold OwnI
    rw [List.map_append, List.length_append]
    exact h2

set_option maxRecDepth 100000 in
set_option maxHeartbeats 1000000 in
theorem kints_true (l : List Int) (va vb : Value) (w : World) (ha : IntsRow w va l) (hb : IntsRow w vb l) (hlen : l.length ≤ 1000000) :
    Calls Tryz.prog 31 #[va, vb] w fun e w' => e = .returned (.bool true) ∧ Below w.heap.size w w' := by
  obtain ⟨a, c, b, off, rfl, ha1, ha2⟩ := ha
  obtain ⟨a', c', b', off', rfl, hb1, hb2⟩ := hb
  have HA := hidIt ha1
  have HB := hidIt hb1
  have HA2 := hidIt ha2
  have HB2 := hidIt hb2
  clear ha1 ha2 hb1 hb2
  have hnn : ((l.length : Int) != (l.length : Int)) = false := bne_self_eq_false _
  go_enter Tryz.func31, Tryz.ntmps31
  go_wp2_with fail
  go_loopw [13] (fun i wr => ∃ k : Nat, k ≤ l.length ∧ i = .int .i64 k ∧ Hid (∃ n, wr = w.drewN n)) (fun i _ => l.length - (intOf i).toNat)
  case atStart => exact ⟨0, Nat.zero_le _, rfl, ⟨0, rfl⟩⟩
  case round =>
    obtain ⟨k, hk, rfl, hn'⟩ := hrel
    have HBL : Hid (Below w.heap.size w wr) := by obtain ⟨n, rfl⟩ := hn'.out; exact ⟨rfl, rfl, rfl, Nat.le_refl _, fun _ _ => rfl⟩
    have HNX : Hid (∀ m, Hid (∃ n, wr.drewN m = w.drewN n)) := fun m => by obtain ⟨n, rfl⟩ := hn'.out; exact ⟨_, World.drewN_drewN _ _ _⟩
    by_cases hlt : k < l.length
    · have x0 : wr.cell? ⟨b, off + k, none⟩ = some (.int .i64 l[k]) := by obtain ⟨n, rfl⟩ := hn'.out; exact HA2.out k hlt
      have y0 : wr.cell? ⟨b', off' + k, none⟩ = some (.int .i64 l[k]) := by obtain ⟨n, rfl⟩ := hn'.out; exact HB2.out k hlt
      obtain rfl := HA.out (by omega)
      obtain rfl := HB.out (by omega)
      have hlt0 : (k : Int) < (l.length : Int) := by omega
      have hk0 : (0 : Int) ≤ (k : Int) := by omega
      have hxx : (l[k] != l[k]) = false := bne_self_eq_false _
      clear hn'
      generalize l[k] = x at *
      go_wp2_with fail
      go_quiet (fail)
      go_wp2_with fail
      go_roundw
      case rel => exact ⟨k + 1, by omega, by go_num, HNX.out _⟩
      case measure => simp [intOf]; omega
    · go_wp2_with fail
      go_ret
      exact ⟨rfl, HBL.out⟩
end Go.Proofs.YtilkpjcbmllgmaaGreatDoor

namespace Go.Proofs.YtilkpjcbmllgmaaGreatDoor
set_option linter.unusedVariables false
set_option linter.unusedSimpArgs false
open Go Go.RowKit

/-- The worlds of a set among the first k, in order. -/
def worldsN (S : BitVec 64) (k : Nat) : List Int := List.map (fun j : Nat => (j : Int)) (List.filter (fun j : Nat => S.getLsbD j) (List.range k))
theorem worldsN_on (S : BitVec 64) (k : Nat) (h : S.getLsbD k = true) : worldsN S (k + 1) = worldsN S k ++ [(k : Int)] := by simp [worldsN, List.range_succ, h]
theorem worldsN_off (S : BitVec 64) (k : Nat) (h : S.getLsbD k = false) : worldsN S (k + 1) = worldsN S k := by simp [worldsN, List.range_succ, h]
theorem worldsN_len (S : BitVec 64) (k : Nat) : (worldsN S k).length ≤ k := by
  unfold worldsN
  rw [List.length_map]
  exact Nat.le_trans (List.length_filter_le _ _) (by simp)
/-- What Worlds answers. -/
def worldsR (l : List ByteArray) (S : BitVec 64) : List Int := if vocB l = true then worldsN S (2 ^ l.length) else []

set_option maxHeartbeats 400000 in
theorem whas_any (S : BitVec 64) (k : Nat) (hk : k < 64) (w : World) :
    Calls Tryz.prog 73 #[bv S, .int .i64 (k : Int)] w fun e w' => e = .returned (.bool (S.getLsbD k)) ∧ w' = w := by
  have hS := S.isLt
  have hb := bit_shr S k
  have hk0 : (0 : Int) ≤ (k : Int) := by omega
  obtain ⟨r, hr⟩ : ∃ r, S.getLsbD k = r := ⟨_, rfl⟩
  rw [hr] at hb ⊢
  clear hr
  cases r
  · have hb' : bits .and .u64 ((S.toNat : Int) / 2 ^ k) 1 = 0 := hb
    clear hb
    go_enter Tryz.func73, Tryz.ntmps73
    go_wp2
    go_ret
    exact ⟨rfl, rfl⟩
  · have hb' : bits .and .u64 ((S.toNat : Int) / 2 ^ k) 1 = 1 := hb
    clear hb
    go_enter Tryz.func73, Tryz.ntmps73
    go_wp2
    go_ret
    exact ⟨rfl, rfl⟩

theorem pow_le64 {n : Nat} (h : n ≤ 6) : 2 ^ n ≤ 64 := by
  have := Nat.pow_le_pow_right (n := 2) (by omega) h
  omega

set_option maxRecDepth 100000 in
set_option maxHeartbeats 1000000 in
theorem r3worlds_any (l : List ByteArray) (S : BitVec 64) (a : Option Addr) (c : Nat) (hn : l.length ≤ 1000000) (w : World) (h : StrsIn w (fun _ => True) a l) :
    Calls Tryz.prog 33 #[.slice a l.length c, bv S] w fun e w' => ∃ v, e = .returned v ∧ IntsRow w' v (worldsR l S) ∧ Below w.heap.size w w' := by
  have HV := hidIt (r3valid_any l a c hn w h)
  clear h
  by_cases hv : vocB l = true
  case neg =>
    have HR : Hid (worldsR l S = []) := by show _ = _; rw [worldsR, if_neg hv]
    have hv' : vocB l = false := by simpa using hv
    rw [hv'] at HV
    clear hv hv'
    go_enter Tryz.func33, Tryz.ntmps33
    go_wp2_with fail
    refine HV.out.mono ?_
    rintro e w1 ⟨rfl, hb⟩
    go_wp2_with fail
    go_ret
    exact ⟨_, rfl, by rw [HR.out]; exact (OwnI.nil w1 0).row, hb⟩
  case pos =>
  have h6 := vocB_len hv
  have HR : Hid (worldsR l S = worldsN S (2 ^ l.length)) := by show _ = _; rw [worldsR, if_pos hv]
  rw [hv] at HV
  have HCT := hidIt (fun w => r3count_any l.length a c h6 w)
  have hp := pow_le64 h6
  obtain ⟨N, hN⟩ : ∃ N, N = 2 ^ l.length := ⟨_, rfl⟩
  rw [← hN] at HCT HR hp
  have HHAS := hidIt (fun k hk w => r3has_any S k hk w)
  have hS := S.isLt
  clear hN hv
  go_enter Tryz.func33, Tryz.ntmps33
  go_wp2_with fail
  refine HV.out.mono ?_
  rintro e w1 ⟨rfl, hb⟩
  have HB1 := hidIt hb
  clear hb HV
  go_wp2_with fail
  go_loopw [5, 6] (fun v i wr => ∃ k : Nat, k ≤ N ∧ i = .int .i64 k ∧ Hid (OwnI wr w1.heap.size v (worldsN S k)) ∧ Hid (Below w1.heap.size w1 wr)) (fun _ i _ => N - (intOf i).toNat)
  case atStart => exact ⟨0, Nat.zero_le _, rfl, (show OwnI _ _ _ (worldsN S 0) from OwnI.nil _ _), Below.refl _ _⟩
  case round =>
    obtain ⟨k, hk, rfl, hown, hbel⟩ := hrel
    by_cases hlt : k < N
    · have hlt' : (k : Int) < (N : Int) := by omega
      have HH := hidIt (HHAS.out k (by omega) wr)
      have HON := hidIt (worldsN_on S k)
      have HOFF := hidIt (worldsN_off S k)
      have HLN := hidIt (worldsN_len S k)
      cases hb : S.getLsbD k
      · rw [hb] at HH
        have HE := hidIt (HOFF.out hb)
        clear hb HON HOFF
        go_wp2_with fail
        refine (HCT.out _).mono ?_
        rintro e w' ⟨rfl, rfl⟩
        go_wp2_with fail
        refine HH.out.mono ?_
        rintro e w' ⟨rfl, rfl⟩
        go_wp2_with fail
        go_roundw
        case rel => exact ⟨k + 1, by omega, by go_num, by rw [HE.out]; exact hown, hbel⟩
        case measure => simp [intOf]; omega
      · rw [hb] at HH
        have HE := hidIt (HON.out hb)
        clear hb HON HOFF
        have HNW := hidIt (heap_alloc_new wr (.cells #[.int .i64 (k : Int)] 3))
        have HO3 := hidIt (hown.out.alloc (.cells #[.int .i64 (k : Int)] 3))
        have HBW : Hid (w1.heap.size ≤ (wr.alloc (.cells #[.int .i64 (k : Int)] 3)).heap.size) := by show _ ≤ _; have := hbel.out.size; simp; omega
        have HOB := hidIt hown.out.block
        go_wp2_with fail
        refine (HCT.out _).mono ?_
        rintro e w' ⟨rfl, rfl⟩
        go_wp2_with fail
        refine HH.out.mono ?_
        rintro e w' ⟨rfl, rfl⟩
        go_wp2_with (at_builtin; refine wpList_append_int rfl _ _ rfl w1.heap.size _ (worldsN S k) rfl HO3.out _ 1 rfl HNW.out (by have := HLN.out; omega) HBW.out ?_)
        intro v' w8 ho8 hg8
        have HO8 := hidIt ho8
        have HB8 : Hid (Below w1.heap.size w1 w8) := below_over2 hbel.out (Grows.alloc _ _) hg8 (fun g e => (HOB.out g e).1)
        clear ho8 hg8
        go_wp2_with fail
        go_roundw
        case rel => exact ⟨k + 1, by omega, by go_num, by rw [HE.out]; exact HO8, HB8⟩
        case measure => simp [intOf]; omega
    · obtain rfl : k = N := by omega
      go_wp2_with fail
      refine (HCT.out _).mono ?_
      rintro e w' ⟨rfl, rfl⟩
      go_wp2_with fail
      go_ret
      exact ⟨_, rfl, by rw [HR.out]; exact hown.out.row, HB1.out.trans (Below.mono hbel.out HB1.out.size)⟩

set_option maxRecDepth 100000 in
set_option maxHeartbeats 1000000 in
theorem wworlds_any (l : List ByteArray) (S : BitVec 64) (a : Option Addr) (c : Nat) (hn : l.length ≤ 1000000) (w : World) (h : StrsIn w (fun _ => True) a l) :
    Calls Tryz.prog 32 #[.slice a l.length c, bv S] w fun e w' => ∃ v, e = .returned v ∧ IntsRow w' v (worldsR l S) ∧ Below w.heap.size w w' := by
  have HV := hidIt (wvalid_any l a c hn w h)
  clear h
  by_cases hv : vocB l = true
  case neg =>
    have HR : Hid (worldsR l S = []) := by show _ = _; rw [worldsR, if_neg hv]
    have hv' : vocB l = false := by simpa using hv
    rw [hv'] at HV
    clear hv hv'
    go_enter Tryz.func32, Tryz.ntmps32
    go_wp2_with fail
    refine HV.out.mono ?_
    rintro e w1 ⟨rfl, rfl⟩
    go_wp2_with fail
    go_ret
    exact ⟨_, rfl, by rw [HR.out]; exact (OwnI.nil _ 0).row, Below.refl _ _⟩
  case pos =>
  have h6 := vocB_len hv
  have HR : Hid (worldsR l S = worldsN S (2 ^ l.length)) := by show _ = _; rw [worldsR, if_pos hv]
  rw [hv] at HV
  have hp := pow_le64 h6
  have hl0 : (0 : Int) ≤ (l.length : Int) := by omega
  have hpow : IntKind.i64.wrap (2 ^ l.length) = ((2 ^ l.length : Nat) : Int) := by
    have e : ((2 : Int) ^ l.length) = ((2 ^ l.length : Nat) : Int) := by rw [Int.natCast_pow]; rfl
    rw [e]
    exact IntWalk.i64_in _ (by generalize 2 ^ l.length = M at hp ⊢; omega)
  obtain ⟨N, hN⟩ : ∃ N, N = 2 ^ l.length := ⟨_, rfl⟩
  rw [← hN] at hpow HR hp
  have HHAS := hidIt (fun k hk w => whas_any S k hk w)
  have hS := S.isLt
  clear hN hv
  go_enter Tryz.func32, Tryz.ntmps32
  go_wp2_with fail
  refine HV.out.mono ?_
  rintro e w1 ⟨rfl, rfl⟩
  clear HV
  go_wp2_with fail
  go_loopw [5, 14] (fun v i wr => ∃ k : Nat, k ≤ N ∧ i = .int .i64 k ∧ Hid (OwnI wr w.heap.size v (worldsN S k)) ∧ Hid (Below w.heap.size w wr)) (fun _ i _ => N - (intOf i).toNat)
  case atStart => exact ⟨0, Nat.zero_le _, rfl, (show OwnI _ _ _ (worldsN S 0) from OwnI.nil _ _), Below.refl _ _⟩
  case round =>
    obtain ⟨k, hk, rfl, hown, hbel⟩ := hrel
    by_cases hlt : k < N
    · have hlt' : (k : Int) < (N : Int) := by omega
      have HH := hidIt (HHAS.out k (by omega) wr)
      have HON := hidIt (worldsN_on S k)
      have HOFF := hidIt (worldsN_off S k)
      have HLN := hidIt (worldsN_len S k)
      cases hb : S.getLsbD k
      · rw [hb] at HH
        have HE := hidIt (HOFF.out hb)
        clear hb HON HOFF
        go_wp2_with fail
        refine HH.out.mono ?_
        rintro e w' ⟨rfl, rfl⟩
        go_wp2_with fail
        go_roundw
        case rel => exact ⟨k + 1, by omega, by go_num, by rw [HE.out]; exact hown, hbel⟩
        case measure => simp [intOf]; omega
      · rw [hb] at HH
        have HE := hidIt (HON.out hb)
        clear hb HON HOFF
        have HNW := hidIt (heap_alloc_new wr (.cells #[.int .i64 (k : Int)] 3))
        have HO3 := hidIt (hown.out.alloc (.cells #[.int .i64 (k : Int)] 3))
        have HBW : Hid (w.heap.size ≤ (wr.alloc (.cells #[.int .i64 (k : Int)] 3)).heap.size) := by show _ ≤ _; have := hbel.out.size; simp; omega
        have HOB := hidIt hown.out.block
        go_wp2_with fail
        refine HH.out.mono ?_
        rintro e w' ⟨rfl, rfl⟩
        go_wp2_with (at_builtin; refine wpList_append_int rfl _ _ rfl w.heap.size _ (worldsN S k) rfl HO3.out _ 1 rfl HNW.out (by have := HLN.out; omega) HBW.out ?_)
        intro v' w8 ho8 hg8
        have HO8 := hidIt ho8
        have HB8 : Hid (Below w.heap.size w w8) := below_over2 hbel.out (Grows.alloc _ _) hg8 (fun g e => (HOB.out g e).1)
        clear ho8 hg8
        go_wp2_with fail
        go_roundw
        case rel => exact ⟨k + 1, by omega, by go_num, by rw [HE.out]; exact HO8, HB8⟩
        case measure => simp [intOf]; omega
    · obtain rfl : k = N := by omega
      go_wp2_with fail
      go_ret
      exact ⟨_, rfl, by rw [HR.out]; exact hown.out.row, hbel.out⟩

/-- The first k worlds of a set, counted. -/
def cntS (S : BitVec 64) (k : Nat) : Nat := cntN S.toNat k
theorem cntS_succ (S : BitVec 64) (k : Nat) : cntS S (k + 1) = cntS S k + (if S.getLsbD k then 1 else 0) := by
  unfold cntS cntN
  rw [List.range_succ, List.countP_append]
  congr 1
  have e : S.toNat.testBit k = S.getLsbD k := rfl
  simp only [List.countP_cons, List.countP_nil, Nat.zero_add, e]
theorem cntS_le (S : BitVec 64) (k : Nat) : cntS S k ≤ k := by
  unfold cntS cntN
  have := List.countP_le_length (p := fun j => S.toNat.testBit j) (l := List.range k)
  rwa [List.length_range] at this

set_option maxHeartbeats 1000000 in
theorem wsize_all (S : BitVec 64) (w : World) : Calls Tryz.prog 34 #[bv S] w fun e w' => e = .returned (.int .i64 ((cntS S 64 : Nat) : Int)) ∧ w' = w := by
  have h := wsize_any S w
  rw [ones_all S.toNat S.isLt] at h
  exact h

set_option maxRecDepth 100000 in
set_option maxHeartbeats 1000000 in
theorem r3size_any (S : BitVec 64) (w : World) : Calls Tryz.prog 35 #[bv S] w fun e w' => e = .returned (.int .i64 ((cntS S 64 : Nat) : Int)) ∧ Below w.heap.size w w' := by
  have HHAS := hidIt (fun k hk w => r3has_any S k hk w)
  have hS := S.isLt
  go_enter Tryz.func35, Tryz.ntmps35
  go_wp2_with fail
  go_loopw [3, 4] (fun c i wr => ∃ k : Nat, k ≤ 64 ∧ i = .int .i64 k ∧ c = .int .i64 ((cntS S k : Nat) : Int) ∧ wr = w) (fun _ i _ => 64 - (intOf i).toNat)
  case atStart => exact ⟨0, Nat.zero_le _, rfl, rfl, rfl⟩
  case round =>
    obtain ⟨k, hk, rfl, rfl, rfl⟩ := hrel
    by_cases hlt : k < 64
    · have hlt' : (k : Int) < 64 := by omega
      have HH := hidIt (HHAS.out k hlt wr)
      have HST := hidIt (cntS_succ S k)
      have hle := cntS_le S k
      generalize cntS S k = c at *
      cases hb : S.getLsbD k
      · rw [hb] at HH HST
        clear hb
        go_wp2_with fail
        refine HH.out.mono ?_
        rintro e w' ⟨rfl, rfl⟩
        go_wp2_with fail
        go_roundw
        case rel => exact ⟨k + 1, by omega, by go_num, by rw [HST.out]; rfl, by first | rfl | trivial⟩
        case measure => simp [intOf]; omega
      · rw [hb] at HH HST
        clear hb
        go_wp2_with fail
        refine HH.out.mono ?_
        rintro e w' ⟨rfl, rfl⟩
        go_wp2_with fail
        go_roundw
        case rel => exact ⟨k + 1, by omega, by go_num, by rw [HST.out]; go_num, by first | rfl | trivial⟩
        case measure => simp [intOf]; omega
    · obtain rfl : k = 64 := by omega
      go_wp2_with fail
      go_ret
      exact ⟨rfl, Below.refl _ _⟩
end Go.Proofs.YtilkpjcbmllgmaaGreatDoor

namespace Go.Proofs.YtilkpjcbmllgmaaGreatDoor
set_option linter.unusedVariables false
set_option linter.unusedSimpArgs false
open Go Go.RowKit

set_option maxRecDepth 100000 in
set_option maxHeartbeats 1000000 in
theorem r3index_any (l : List ByteArray) (s : ByteArray) (a : Option Addr) (c : Nat) (hn : l.length ≤ 1000000) (w : World) {S : Nat → Prop} (h : StrsIn w S a l) :
    Calls Tryz.prog 78 #[.slice a l.length c, .string s] w fun e w' => e = .returned (.int .i64 (indexI l s)) ∧ w = w' := by
  have H := hidIt h
  clear h
  go_enter Tryz.func78, Tryz.ntmps78
  go_wp2_with fail
  go_loop [5] (fun i => ∃ k : Nat, k ≤ l.length ∧ i = .int .i64 k ∧ Hid (inB (l.take k) s = false)) (fun i => l.length - (intOf i).toNat)
  case atStart => exact ⟨0, Nat.zero_le _, rfl, by show _ = _; simp [inB]⟩
  case round =>
    obtain ⟨k, hk, rfl, hno⟩ := hrel
    by_cases hlt : k < l.length
    · obtain ⟨b, off, rfl, c0, hsz⟩ := H.out.at k hlt
      have HIDX := hidIt (fun e => idx_at (s := s) hlt hno.out e)
      have HST := hidIt (inB_take l k hlt s)
      have HM : Hid (l[k] ∈ l) := List.getElem_mem hlt
      have hlt' : (k : Int) < (l.length : Int) := by omega
      have hk0 : (0 : Int) ≤ (k : Int) := by omega
      generalize l[k] = x at *
      cases he : (x.toList == s.toList)
      · have HN : Hid (inB (l.take (k + 1)) s = false) := by
          show _ = _
          rw [HST.out, hno.out, Bool.false_or, inB_one, ← Lib.toList_data, ← Lib.toList_data]
          exact he
        clear HIDX HST hno
        go_wp2_with fail
        go_round
        case rel => exact ⟨k + 1, by omega, by go_num, HN⟩
        case measure => simp [intOf]; omega
      · have hxs : x.data.toList = s.data.toList := by
          have h1 := eq_of_beq he
          rw [Lib.toList_data, Lib.toList_data] at h1
          exact h1
        have HI : Hid (indexI l s = (k : Int)) := by
          show _ = _
          unfold indexI
          rw [if_pos (inB_mem.2 (by rw [← bytes_inj hxs]; exact HM.out)), HIDX.out hxs]
        clear HIDX HST hno hxs HM
        go_wp2_with fail
        go_ret
        exact ⟨ret_i64 HI.out.symm, rfl⟩
    · obtain rfl : k = l.length := by omega
      have HI : Hid (indexI l s = -1) := by
        show _ = _
        have := hno.out
        rw [List.take_length] at this
        unfold indexI
        rw [this]
        rfl
      clear hno
      go_wp2_with fail
      go_ret
      exact ⟨ret_i64 HI.out.symm, rfl⟩

theorem pow_le64R {n : Nat} (h : n ≤ 6) : 2 ^ n ≤ 64 := by
  have := Nat.pow_le_pow_right (n := 2) (by omega) h
  omega
def xorB (j m : Nat) : Bool := (if j.testBit m then decide (j - 2 ^ m = j ^^^ 2 ^ m) else decide (j + 2 ^ m = j ^^^ 2 ^ m)) && decide (j ^^^ 2 ^ m < 64)
theorem xorB_F : ∀ j : Fin 64, ∀ m : Fin 6, xorB j.val m.val = true := by decide +kernel
def xorN (j m n : Nat) : Bool := !decide (m < n) || (decide (j ^^^ 2 ^ m < 2 ^ n) == decide (j < 2 ^ n))
theorem xorN_F : ∀ j : Fin 64, ∀ m : Fin 6, ∀ n : Fin 7, xorN j.val m.val n.val = true := by decide +kernel
theorem xorI_F : ∀ j : Fin 64, ∀ m : Fin 6, bits BinOp.xor IntKind.i64 (j.val : Int) ((2 ^ m.val : Nat) : Int) = ((j.val ^^^ 2 ^ m.val : Nat) : Int) := by decide +kernel
theorem xor_lt (j m : Nat) (hj : j < 64) (hm : m < 6) : j ^^^ 2 ^ m < 64 := by
  have := xorB_F ⟨j, hj⟩ ⟨m, hm⟩
  simp only [xorB, Bool.and_eq_true, decide_eq_true_eq] at this
  exact this.2
theorem hilo (A : BitVec 64) (j m : Nat) (hj : j < 64) (hm : m < 6) : (A.getLsbD (hiW j m) || A.getLsbD (loW j m)) = (A.getLsbD j || A.getLsbD (j ^^^ 2 ^ m)) := by
  have := xorB_F ⟨j, hj⟩ ⟨m, hm⟩
  simp only [xorB, Bool.and_eq_true] at this
  have h1 := this.1
  unfold hiW loW
  by_cases hb : j.testBit m = true
  · rw [if_pos hb, decide_eq_true_eq] at h1
    rw [if_pos hb, if_pos hb, h1]
  · rw [if_neg hb, decide_eq_true_eq] at h1
    rw [if_neg hb, if_neg hb, h1, Bool.or_comm]

/-- Does forgetting keep the world? (m: the atom's place, or none) -/
def forP (S : BitVec 64) (m : Option Nat) (j : Nat) : Bool := S.getLsbD j || match m with
  | some m => S.getLsbD (j ^^^ 2 ^ m)
  | none => false
/-- What Forget answers. -/
def forR (l : List ByteArray) (S : BitVec 64) (s : ByteArray) : BitVec 64 := if vocB l = true then forgetS l S s else 0#64
theorem forR_some {l : List ByteArray} {S : BitVec 64} {s : ByteArray} (hv : vocB l = true) (hin : inB l s = true) (hidx : idxB l s < l.length) : forR l S s = wsetN (forP S (some (idxB l s))) (2 ^ l.length) := by
  have h6 := vocB_len hv
  rw [forR, if_pos hv, forgetS, if_pos hin]
  refine set_ext fun j hj => ?_
  rw [forgetI_bit _ _ j (by omega) hj, hilo _ j _ hj (by omega), wsetN_bit, and_allS_bit, and_allS_bit]
  have hx := xor_lt j (idxB l s) hj (by omega)
  have hn := xorN_F ⟨j, hj⟩ ⟨idxB l s, by omega⟩ ⟨l.length, by omega⟩
  simp only [xorN, decide_eq_true hidx, Bool.not_true, Bool.false_or, beq_iff_eq] at hn
  rw [hn, decide_eq_true hj, decide_eq_true hx]
  unfold forP
  generalize decide (j < 2 ^ l.length) = r
  cases r <;> simp
theorem forR_none {l : List ByteArray} {S : BitVec 64} {s : ByteArray} (hv : vocB l = true) (hin : inB l s = false) : forR l S s = wsetN (forP S none) (2 ^ l.length) := by
  rw [forR, if_pos hv, forgetS, if_neg (by rw [hin]; decide)]
  refine set_ext fun j hj => ?_
  rw [wsetN_bit, and_allS_bit, decide_eq_true hj]
  unfold forP
  generalize decide (j < 2 ^ l.length) = r
  cases r <;> simp

set_option maxRecDepth 100000 in
set_option maxHeartbeats 2000000 in
theorem r3forget_any (l : List ByteArray) (S : BitVec 64) (s : ByteArray) (a : Option Addr) (c : Nat) (hn : l.length ≤ 1000000) (w : World) (h : StrsIn w (fun _ => True) a l) :
    Calls Tryz.prog 37 #[.slice a l.length c, bv S, .string s] w fun e w' => e = .returned (bv (forR l S s)) ∧ Below w.heap.size w w' := by
  have HV := hidIt (r3valid_any l a c hn w h)
  have H := hidIt h
  clear h
  by_cases hv : vocB l = true
  case neg =>
    have HR : Hid (forR l S s = 0#64) := by show _ = _; rw [forR, if_neg hv]
    have hv' : vocB l = false := by simpa using hv
    rw [hv'] at HV
    clear hv hv'
    go_enter Tryz.func37, Tryz.ntmps37
    go_wp2_with fail
    refine HV.out.mono ?_
    rintro e w1 ⟨rfl, hb⟩
    go_wp2_with fail
    go_ret
    exact ⟨ret_u64 (by rw [HR.out]; rfl), hb⟩
  case pos =>
  have h6 := vocB_len hv
  rw [hv] at HV
  have HCT := hidIt (fun w => r3count_any l.length a c h6 w)
  have HIX := hidIt (fun w (h : StrsIn w (fun _ => True) a l) => r3index_any l s a c hn w h)
  have hp := pow_le64R h6
  have HHAS := hidIt (fun k hk w => r3has_any S k hk w)
  have hS := S.isLt
  by_cases hin : inB l s = true
  case neg =>
    have hin' : inB l s = false := by simpa using hin
    have HR := hidIt (forR_none (S := S) hv hin')
    have HI : Hid (indexI l s = -1) := by show _ = _; unfold indexI; rw [hin']; rfl
    rw [HI.out] at HIX
    obtain ⟨N, hN⟩ : ∃ N, N = 2 ^ l.length := ⟨_, rfl⟩
    rw [← hN] at HCT HR hp
    clear hN hv hin hin' HI
    go_enter Tryz.func37, Tryz.ntmps37
    go_wp2_with fail
    refine HV.out.mono ?_
    rintro e w1 ⟨rfl, hb⟩
    have HB1 := hidIt hb
    have H1 := hidIt (H.out.go hb)
    clear hb HV H
    go_wp2_with fail
    refine (HIX.out _ H1.out).mono ?_
    rintro e w2 ⟨rfl, rfl⟩
    go_wp2_with fail
    go_loopw [8, 9] (fun o i wr => ∃ k : Nat, k ≤ N ∧ i = .int .i64 k ∧ o = bv (wsetN (forP S none) k) ∧ wr = w1) (fun _ i _ => N - (intOf i).toNat)
    case atStart => exact ⟨0, Nat.zero_le _, rfl, rfl, rfl⟩
    case round =>
      obtain ⟨k, hk, rfl, rfl, rfl⟩ := hrel
      by_cases hlt : k < N
      · have hlt' : (k : Int) < (N : Int) := by omega
        have HH := hidIt (HHAS.out k (by omega) wr)
        have hw : IntKind.u64.wrap (k : Int) = (k : Int) := by rw [IntKind.wrap_u64]; omega
        have HST : Hid (wsetN (forP S none) (k + 1) = if S.getLsbD k then wsetN (forP S none) k ||| BitVec.twoPow 64 k else wsetN (forP S none) k) := by
          show _ = _
          rw [wsetN_succ]
          simp [forP]
        generalize wsetN (forP S none) k = T at *
        cases hb : S.getLsbD k
        · rw [hb] at HH HST
          clear hb
          go_wp2_with fail
          refine (HCT.out _).mono ?_
          rintro e w' ⟨rfl, rfl⟩
          go_wp2_with fail
          refine HH.out.mono ?_
          rintro e w' ⟨rfl, rfl⟩
          go_wp2_with fail
          go_roundw
          case rel => exact ⟨k + 1, by omega, by go_num, by rw [HST.out]; rfl, by first | rfl | trivial⟩
          case measure => simp [intOf]; omega
        · rw [hb] at HH HST
          clear hb
          go_wp2_with fail
          refine (HCT.out _).mono ?_
          rintro e w' ⟨rfl, rfl⟩
          go_wp2_with fail
          refine HH.out.mono ?_
          rintro e w' ⟨rfl, rfl⟩
          go_wp2_with fail
          go_roundw
          case rel => exact ⟨k + 1, by omega, by go_num, by rw [HST.out, if_pos trivial, bv, or_one T k (by omega)], by first | rfl | trivial⟩
          case measure => simp [intOf]; omega
      · obtain rfl : k = N := by omega
        go_wp2_with fail
        refine (HCT.out _).mono ?_
        rintro e w' ⟨rfl, rfl⟩
        go_wp2_with fail
        go_ret
        exact ⟨ret_u64 (by rw [HR.out]), HB1.out⟩
  case pos =>
  have hidx : idxB l s < l.length := by
    unfold idxB
    rw [List.findIdx_lt_length]
    exact ⟨s, inB_mem.1 hin, by simp⟩
  have HR := hidIt (forR_some (S := S) hv hin hidx)
  have HI : Hid (indexI l s = (idxB l s : Int)) := by show _ = _; unfold indexI; rw [if_pos hin]
  rw [HI.out] at HIX
  have hm6 : idxB l s < 6 := by omega
  obtain ⟨N, hN⟩ : ∃ N, N = 2 ^ l.length := ⟨_, rfl⟩
  rw [← hN] at HCT HR hp
  clear hN hv hin HI hidx
  generalize idxB l s = m at *
  have hP : 2 ^ m ≤ 32 := by
    have := Nat.pow_le_pow_right (n := 2) (by omega) (show m ≤ 5 by omega)
    omega
  have hpw : IntKind.i64.wrap (2 ^ m) = ((2 ^ m : Nat) : Int) := by
    have e : ((2 : Int) ^ m) = ((2 ^ m : Nat) : Int) := by rw [Int.natCast_pow]; rfl
    rw [e]
    exact IntWalk.i64_in _ (by generalize 2 ^ m = M at hP ⊢; omega)
  have hwm : IntKind.u64.wrap (m : Int) = (m : Int) := by rw [IntKind.wrap_u64]; omega
  have hm0 : (0 : Int) ≤ (m : Int) := by omega
  have HX := hidIt (fun k (hk : k < 64) => xorI_F ⟨k, hk⟩ ⟨m, hm6⟩)
  have HXL := hidIt (fun k (hk : k < 64) => xor_lt k m hk hm6)
  go_enter Tryz.func37, Tryz.ntmps37
  go_wp2_with fail
  refine HV.out.mono ?_
  rintro e w1 ⟨rfl, hb⟩
  have HB1 := hidIt hb
  have H1 := hidIt (H.out.go hb)
  clear hb HV H
  go_wp2_with fail
  refine (HIX.out _ H1.out).mono ?_
  rintro e w2 ⟨rfl, rfl⟩
  go_wp2_with fail
  go_loopw [8, 9] (fun o i wr => ∃ k : Nat, k ≤ N ∧ i = .int .i64 k ∧ o = bv (wsetN (forP S (some m)) k) ∧ wr = w1) (fun _ i _ => N - (intOf i).toNat)
  case atStart => exact ⟨0, Nat.zero_le _, rfl, rfl, rfl⟩
  case round =>
    obtain ⟨k, hk, rfl, rfl, rfl⟩ := hrel
    by_cases hlt : k < N
    · have hlt' : (k : Int) < (N : Int) := by omega
      have HH := hidIt (HHAS.out k (by omega) wr)
      have HH2 := hidIt (HHAS.out (k ^^^ 2 ^ m) (HXL.out k (by omega)) wr)
      have hxr : bits BinOp.xor IntKind.i64 (k : Int) ((2 ^ m : Nat) : Int) = ((k ^^^ 2 ^ m : Nat) : Int) := HX.out k (by omega)
      have hw : IntKind.u64.wrap (k : Int) = (k : Int) := by rw [IntKind.wrap_u64]; omega
      have HST : Hid (wsetN (forP S (some m)) (k + 1) = if S.getLsbD k || S.getLsbD (k ^^^ 2 ^ m) then wsetN (forP S (some m)) k ||| BitVec.twoPow 64 k else wsetN (forP S (some m)) k) := by
        show _ = _
        rw [wsetN_succ]
        rfl
      generalize wsetN (forP S (some m)) k = T at *
      generalize k ^^^ 2 ^ m = K2 at *
      generalize 2 ^ m = P at *
      cases hb : S.getLsbD k
      · rw [hb] at HH HST
        clear hb
        cases hb2 : S.getLsbD K2
        · rw [hb2] at HH2 HST
          clear hb2
          go_wp2_with fail
          refine (HCT.out _).mono ?_
          rintro e w' ⟨rfl, rfl⟩
          go_wp2_with fail
          refine HH.out.mono ?_
          rintro e w' ⟨rfl, rfl⟩
          go_wp2_with fail
          refine HH2.out.mono ?_
          rintro e w' ⟨rfl, rfl⟩
          go_wp2_with fail
          go_roundw
          case rel => exact ⟨k + 1, by omega, by go_num, by rw [HST.out]; rfl, by first | rfl | trivial⟩
          case measure => simp [intOf]; omega
        · rw [hb2] at HH2 HST
          clear hb2
          go_wp2_with fail
          refine (HCT.out _).mono ?_
          rintro e w' ⟨rfl, rfl⟩
          go_wp2_with fail
          refine HH.out.mono ?_
          rintro e w' ⟨rfl, rfl⟩
          go_wp2_with fail
          refine HH2.out.mono ?_
          rintro e w' ⟨rfl, rfl⟩
          go_wp2_with fail
          go_roundw
          case rel => exact ⟨k + 1, by omega, by go_num, by rw [HST.out]; simp only [Bool.or_true, if_true]; rw [bv, or_one T k (by omega)], by first | rfl | trivial⟩
          case measure => simp [intOf]; omega
      · rw [hb] at HH HST
        clear hb
        go_wp2_with fail
        refine (HCT.out _).mono ?_
        rintro e w' ⟨rfl, rfl⟩
        go_wp2_with fail
        refine HH.out.mono ?_
        rintro e w' ⟨rfl, rfl⟩
        go_wp2_with fail
        go_roundw
        case rel => exact ⟨k + 1, by omega, by go_num, by rw [HST.out]; simp only [Bool.true_or, if_true]; rw [bv, or_one T k (by omega)], by first | rfl | trivial⟩
        case measure => simp [intOf]; omega
    · obtain rfl : k = N := by omega
      go_wp2_with fail
      refine (HCT.out _).mono ?_
      rintro e w' ⟨rfl, rfl⟩
      go_wp2_with fail
      go_ret
      exact ⟨ret_u64 (by rw [HR.out]), HB1.out⟩

/-- All, at lists of names whatever. -/
theorem wAllR_any (l : List ByteArray) (a : Option Addr) (c : Nat) (hn : l.length ≤ 1000000) (w : World) {S : Nat → Prop} (h : StrsIn w S a l) :
    Calls Tryz.prog 28 #[.slice a l.length c] w fun e w' => e = .returned (bv (allR l)) ∧ w = w' := by
  by_cases hv : vocB l = true
  · rw [allR, if_pos hv]
    exact wAll_any l hv a c (vocB_len hv) w h
  · have hv' : vocB l = false := by simpa using hv
    have HV := hidIt (wvalid_any l a c hn w h)
    have HR : Hid (allR l = 0#64) := by show _ = _; rw [allR, if_neg hv]
    rw [hv'] at HV
    clear hv hv' h
    go_enter Tryz.func28, Tryz.ntmps28
    go_wp2_with fail
    refine HV.out.mono ?_
    rintro e w1 ⟨rfl, rfl⟩
    go_wp2_with fail
    go_ret
    exact ⟨ret_u64 (by rw [HR.out]; rfl), rfl⟩

set_option maxRecDepth 100000 in
set_option maxHeartbeats 2000000 in
theorem wforgetR_any (l : List ByteArray) (S : BitVec 64) (s : ByteArray) (a : Option Addr) (c : Nat) (hn : l.length ≤ 1000000) (w : World) (h : StrsIn w (fun _ => True) a l) :
    Calls Tryz.prog 36 #[.slice a l.length c, bv S, .string s] w fun e w' => e = .returned (bv (forR l S s)) ∧ Below w.heap.size w w' := by
  by_cases hv : vocB l = true
  · rw [forR, if_pos hv]
    exact forget_any l hv S s a c w h
  · have HR : Hid (forR l S s = 0#64) := by show _ = _; rw [forR, if_neg hv]
    have HALL := hidIt (wAllR_any l a c hn w h)
    have ha : allR l = 0#64 := by rw [allR, if_neg hv]
    rw [ha] at HALL
    have HIDX := hidIt (indexS_any l s a c hn w h)
    have hand : bits .and .u64 (S.toNat : Int) 0 = 0 := by
      have := bits_and_bv S 0#64
      rw [BitVec.and_zero] at this
      exact this
    have he0 : bv 0#64 = .int .u64 0 := rfl
    rw [he0] at HALL
    clear hv ha he0 h
    by_cases hin : inB l s = true
    · have HI : Hid (indexI l s = (idxB l s : Int)) := by show _ = _; unfold indexI; rw [if_pos hin]
      rw [HI.out] at HIDX
      clear HI hin
      generalize idxB l s = i at *
      have hi0 : (0 : Int) ≤ (i : Int) := by omega
      go_enter Tryz.func36, Tryz.ntmps36
      go_wp2_with fail
      refine HALL.out.mono ?_
      rintro e w' ⟨rfl, rfl⟩
      go_wp2_with fail
      refine HIDX.out.mono ?_
      rintro e w' ⟨rfl, rfl⟩
      go_wp2_with fail
      go_ret
      exact ⟨ret_u64 (by rw [HR.out]; rfl), Below.refl _ _⟩
    · have hin' : inB l s = false := by simpa using hin
      have HI : Hid (indexI l s = -1) := by show _ = _; unfold indexI; rw [hin']; rfl
      rw [HI.out] at HIDX
      clear HI hin hin'
      go_enter Tryz.func36, Tryz.ntmps36
      go_wp2_with fail
      refine HALL.out.mono ?_
      rintro e w' ⟨rfl, rfl⟩
      go_wp2_with fail
      refine HIDX.out.mono ?_
      rintro e w' ⟨rfl, rfl⟩
      go_wp2_with fail
      go_ret
      exact ⟨ret_u64 (by rw [HR.out]; rfl), Below.refl _ _⟩
end Go.Proofs.YtilkpjcbmllgmaaGreatDoor

namespace Go.Proofs.YtilkpjcbmllgmaaGreatDoor
set_option linter.unusedVariables false
set_option linter.unusedSimpArgs false
open Go Go.RowKit

/-- A list of names in a cell; it lies outside block b. -/
def VocCell (w : World) (b : Nat) (v : Value) : Prop := ∃ (l : List ByteArray) (a : Option Addr) (c : Nat), v = .slice a l.length c ∧ l.length ≤ 12 ∧ l.length ≤ c ∧ c ≤ maxLen ∧ StrsIn w (fun i => i ≠ b) a l
theorem VocCell.kept {w w' : World} {b : Nat} {v : Value} (h : VocCell w b v) (hg : w.grownBy w' (some b)) : VocCell w' b v := by
  obtain ⟨l, a, c, h1, h2, h3, h4, h5⟩ := h
  exact ⟨l, a, c, h1, h2, h3, h4, h5.kept fun i hi hl => hg.block i hl (fun e => hi (by injection e))⟩
theorem StrsIn.apart {w : World} {S : Nat → Prop} {a : Option Addr} {l : List ByteArray} (h : StrsIn w S a l) {b : Nat} (hb : ∀ i, i < w.heap.size → S i → i ≠ b) : StrsIn w (fun i => i ≠ b) a l := h.mono fun i hi hS => hb i hi hS

theorem cells4 {w : World} {b : Nat} {x0 x1 x2 x3 : Value} {t : TypeId} (h : w.heap[b]? = some (.cells #[x0, x1, x2, x3] t (0, 0))) (k : Nat) (hk : k < 4) {C : Value → Prop} (h0 : C x0) (h1 : C x1) (h2 : C x2) (h3 : C x3) : ∃ v, w.cell? ⟨b, k, none⟩ = some v ∧ C v := by
  rcases (by omega : k = 0 ∨ k = 1 ∨ k = 2 ∨ k = 3) with rfl | rfl | rfl | rfl
  · exact ⟨x0, by simp [World.cell?, h], h0⟩
  · exact ⟨x1, by simp [World.cell?, h], h1⟩
  · exact ⟨x2, by simp [World.cell?, h], h2⟩
  · exact ⟨x3, by simp [World.cell?, h], h3⟩

end Go.Proofs.YtilkpjcbmllgmaaGreatDoor

namespace Go.Proofs.YtilkpjcbmllgmaaGreatDoor
set_option linter.unusedVariables false
set_option linter.unusedSimpArgs false
open Go Go.RowKit

/-- A list of strings, wherever it lies. -/
def StrsV (w : World) (v : Value) (l : List ByteArray) : Prop := ∃ (a : Option Addr) (c : Nat), v = .slice a l.length c ∧ l.length ≤ c ∧ c ≤ maxLen ∧ ((a = none ∧ c = 0) ∨ ∃ b o, a = some ⟨b, o, none⟩) ∧ StrsIn w (fun _ => True) a l
theorem StrsV.go {w w' : World} {v : Value} {l : List ByteArray} (h : StrsV w v l) (hb : Below w.heap.size w w') : StrsV w' v l := by
  obtain ⟨a, c, h1, h2, h3, h4, h5⟩ := h
  exact ⟨a, c, h1, h2, h3, h4, h5.go hb⟩
theorem OwnS.strsV {w : World} {B : Nat} {v : Value} {l : List ByteArray} (h : OwnS w B v l) : StrsV w v l := by
  rcases h.1.2 with ⟨rfl, h0⟩ | ⟨g, cap, cur, rfl, hB, hg, hnc, hcm, hcs, htake⟩
  · obtain rfl : l = [] := List.eq_nil_of_length_eq_zero h0
    exact ⟨none, 0, rfl, Nat.le_refl _, Nat.zero_le _, .inl ⟨rfl, rfl⟩, StrsIn.nil none⟩
  · exact ⟨_, cap, rfl, hnc, hcm, .inr ⟨g, 0, rfl⟩, OwnS.strs h⟩
theorem StrsV.nil (w : World) : StrsV w (.slice none 0 0) [] := ⟨none, 0, rfl, Nat.le_refl _, Nat.zero_le _, .inl ⟨rfl, rfl⟩, StrsIn.nil none⟩

theorem insS_split (x : ByteArray) : ∀ (xs : List ByteArray) (k : Nat), k ≤ xs.length → (∀ y ∈ xs.take k, y.data.toList < x.data.toList) → insS x xs = xs.take k ++ insS x (xs.drop k)
  | xs, 0, _, _ => rfl
  | [], k + 1, hk, _ => by simp at hk
  | y :: ys, k + 1, hk, h => by
    have h1 : y.data.toList < x.data.toList := h y (by simp)
    rw [insS, if_pos h1, insS_split x ys k (by simpa using hk) fun z hz => h z (by simp [hz])]
    simp
theorem insS_end (x : ByteArray) (xs : List ByteArray) (h : ∀ y ∈ xs.take xs.length, y.data.toList < x.data.toList) : insS x xs = (xs.take xs.length ++ [x]) ++ xs.drop xs.length := by
  rw [insS_split x xs xs.length (Nat.le_refl _) h]
  simp [insS]
theorem insS_same (x : ByteArray) (xs : List ByteArray) (k : Nat) (hk : k < xs.length) (h : ∀ y ∈ xs.take k, y.data.toList < x.data.toList) (he : xs[k] = x) : insS x xs = xs := by
  rw [insS_split x xs k (Nat.le_of_lt hk) h, List.drop_eq_getElem_cons hk, insS, if_neg (by rw [he]; exact List.lt_irrefl _), if_pos he]
  conv => rhs; rw [← List.take_append_drop k xs, List.drop_eq_getElem_cons hk]
theorem insS_at (x : ByteArray) (xs : List ByteArray) (k : Nat) (hk : k < xs.length) (h : ∀ y ∈ xs.take k, y.data.toList < x.data.toList) (h1 : ¬ xs[k].data.toList < x.data.toList) (he : xs[k] ≠ x) :
    insS x xs = (xs.take k ++ [x]) ++ xs.drop k := by
  rw [insS_split x xs k (Nat.le_of_lt hk) h, List.drop_eq_getElem_cons hk, insS, if_neg h1, if_neg he]
  simp

theorem run_append_none_any {w : World} (base : Nat) (t ty e : TypeId) (i : TypeInfo) (size : Nat) (ht : Tryz.prog.underlying t = some (.slice e)) (hi : Tryz.prog.info? e = some i)
    (v : Value) (n : Nat) (xs : List Value) (hown : w.ownsRow base e size v n xs) (c : Nat) : (Builtin.append_ #[t, t] ty #[v, .slice none 0 c]).run Tryz.prog w = .ok v w := by
  rcases hown.2 with ⟨rfl, rfl⟩ | ⟨g, cap, cur, rfl, _, _, hnc, _⟩
  · simp [Builtin.append_, run_underlying ht, sizeOf, typeInfo, hi, Builtin.lenOf, Builtin.firstCells]
  · simp [Builtin.append_, run_underlying ht, sizeOf, typeInfo, hi, Builtin.lenOf, Builtin.firstCells, hnc, storeCells]

/-- append of a list of strings that lies somewhere. -/
theorem run_append_strsV {w : World} (ty : TypeId) (B : Nat) (v : Value) (l : List ByteArray) (hown : OwnS w B v l) (a : Option Addr) (n c : Nat) (m : List ByteArray) (hn : n = m.length) (hs : StrsIn w (fun _ => True) a m)
    (hlen : l.length ≤ 1000001) (hlen2 : m.length ≤ 1000000) (hB : B ≤ w.heap.size) :
    ∃ v' w', (Builtin.append_ #[25, 25] ty #[v, .slice a n c]).run Tryz.prog w = .ok v' w' ∧ OwnS w' B v' (l ++ m) ∧ w.grownBy w' v.ownBlock := by
  obtain ⟨i0, hi, hz0, hz1, hz2⟩ := info_parts infoStr
  subst hn
  cases a with
  | none =>
    obtain rfl : m = [] := by
      cases m with
      | nil => rfl
      | cons x r => obtain ⟨b, off, h1, -⟩ := hs; have := (h1 (by simp)).1; cases this
    refine ⟨v, w, run_append_none_any B 25 ty 9 i0 1 Tryz.underlying25 hi v l.length _ hown.1 c, by rw [List.append_nil]; exact hown, only_refl w _⟩
  | some ad =>
    have hcells : ∀ j u, (m.map Value.string)[j]? = some u → w.cell? (ad.add j) = some u := fun j u hj => by
      rw [List.getElem?_map] at hj
      obtain ⟨s, hs1, rfl⟩ := Option.map_eq_some_iff.1 hj
      obtain ⟨hlt, rfl⟩ := List.getElem?_eq_some_iff.1 hs1
      obtain ⟨b, off, e, hc, -⟩ := hs.at j hlt
      obtain rfl := Option.some.inj e
      have e2 : (⟨b, off, none⟩ : Addr).add j = ⟨b, off + j, none⟩ := by unfold Addr.add; split <;> simp_all
      rw [e2]
      exact hc
    obtain ⟨v', w', hr, h6, h7, -⟩ := run_append_own (P := Tryz.prog) w B 25 ty 9 i0 _ 1 16 Tryz.underlying25 hi hz0 hz1 hz2 rfl (by decide) v l.length _ hown.1 ad m.length c (m.map Value.string) (by simp) hcells (fun u hu => by obtain ⟨t, -, rfl⟩ := List.mem_map.1 hu; rfl) (by unfold maxLen; omega) (by omega) hB
    refine ⟨v', w', hr, ⟨?_, fun t ht => ?_⟩, h7⟩
    · rw [List.map_append, List.length_append]
      exact h6
    · rcases List.mem_append.1 ht with h4 | h4
      · exact hown.2 t h4
      · obtain ⟨j, hj, rfl⟩ := List.mem_iff_getElem.1 h4
        obtain ⟨b, off, e, -, hz⟩ := hs.at j hj
        exact hz

theorem wpList_append_strsV {w : World} {ops : Array Oper} {rest : List Oper} {o : Oper} {a : Act} {Q : Exit → Act → World → Prop} (hgd : o.guard = none) (s x : Operand)
    (ho : o.op = .call { callee := .builtin .append, args := #[s, x], argTypes := #[25, 25] }) (B : Nat) (v : Value) (l : List ByteArray) (hs : a.eval s = v) (hown : OwnS w B v l)
    (ax : Option Addr) (n c : Nat) (m : List ByteArray) (hx : a.eval x = .slice ax n c) (hn : n = m.length) (hxo : StrsIn w (fun _ => True) ax m) (hlen : l.length ≤ 1000001) (hlen2 : m.length ≤ 1000000) (hB : B ≤ w.heap.size)
    (h : ∀ v' w', OwnS w' B v' (l ++ m) → w.grownBy w' v.ownBlock → wpList Tryz.prog ops Q rest (a.put o.dst v') w') : wpList Tryz.prog ops Q (o :: rest) a w := by
  obtain ⟨v', w', hr, h1, h2⟩ := run_append_strsV (w := w) o.type B v l hown ax n c m hn hxo hlen hlen2 hB
  refine wpList_plain hgd fun K hK => ?_
  unfold Oper.wp execOp
  simp only [ho, resolve, invoke, builtin, Sem.run_bind, Sem.run_pure, Result.andThen_ok, List.map_toArray, List.map_cons, List.map_nil, hs, hx, hr]
  exact hK _ _ (h v' w' h1 h2)

theorem step_append_strsV {w : World} {ops : Array Oper} {o : Oper} {a : Act} {K : Act → World → Prop} {Q : Exit → Act → World → Prop} {E : Prop} (hgd : o.guard = none) (s x : Operand)
    (ho : o.op = .call { callee := .builtin .append, args := #[s, x], argTypes := #[25, 25] }) (B : Nat) (v : Value) (l : List ByteArray) (hs : a.eval s = v) (hown : OwnS w B v l)
    (ax : Option Addr) (n c : Nat) (m : List ByteArray) (hx : a.eval x = .slice ax n c) (hn : n = m.length) (hxo : StrsIn w (fun _ => True) ax m) (hlen : l.length ≤ 1000001) (hlen2 : m.length ≤ 1000000) (hB : B ≤ w.heap.size)
    (h : ∀ v' w', OwnS w' B v' (l ++ m) → w.grownBy w' v.ownBlock → K (a.put o.dst v') w') :
    if Region.wanted o (yielded ops a.tmps) = true then Oper.wp Tryz.prog o a w K Q else E := by
  have hw : Region.wanted o (yielded ops a.tmps) = true := by simp [Region.wanted, hgd]
  rw [if_pos hw]
  obtain ⟨v', w', hr, h1, h2⟩ := run_append_strsV (w := w) o.type B v l hown ax n c m hn hxo hlen hlen2 hB
  unfold Oper.wp execOp
  simp only [ho, resolve, invoke, builtin, Sem.run_bind, Sem.run_pure, Result.andThen_ok, List.map_toArray, List.map_cons, List.map_nil, hs, hx, hr]
  exact h v' w' h1 h2

theorem StrsIn.take {w : World} {S : Nat → Prop} {a : Option Addr} {l : List ByteArray} (h : StrsIn w S a l) (k : Nat) : StrsIn w S a (l.take k) := by
  obtain ⟨b, off, ha, hc⟩ := h
  refine ⟨b, off, fun h0 => ha (by simp at h0; omega), fun i hi => ?_⟩
  have hi' : i < l.length := by simp at hi; omega
  rw [List.getElem_take]
  exact hc i hi'
theorem StrsIn.drop {w : World} {S : Nat → Prop} {b off c : Nat} {l : List ByteArray} (h : StrsIn w S (some ⟨b, off, none⟩) l) (k : Nat) (hk : k ≤ l.length) (hc : l.length ≤ c) :
    StrsIn w S (if c = k then some ⟨b, off, none⟩ else some ⟨b, off + k, none⟩) (l.drop k) := by
  by_cases hlt : k < l.length
  · rw [if_neg (by omega)]
    obtain ⟨b', off', ha, hcells⟩ := h
    obtain ⟨e, hS⟩ := ha (by omega)
    injection e with e
    injection e with e1 e2
    subst e1 e2
    refine ⟨b, off + k, fun _ => ⟨rfl, hS⟩, fun i hi => ?_⟩
    have hi' : k + i < l.length := by simp at hi; omega
    rw [List.getElem_drop, show off + k + i = off + (k + i) by omega]
    exact hcells (k + i) hi'
  · rw [List.drop_eq_nil_of_le (by omega)]
    exact StrsIn.nil _
theorem StrsIn.one {w : World} {S : Nat → Prop} {m : Nat} {s : ByteArray} {ty : TypeId} (h : w.heap[m]? = some (.cells #[.string s] ty (0, 0))) (hS : S m) (hs : s.size ≤ maxLen) : StrsIn w S (some ⟨m, 0, none⟩) [s] :=
  ⟨m, 0, fun _ => ⟨rfl, hS⟩, fun i hi => by
    obtain rfl : i = 0 := by simp at hi; exact hi
    exact ⟨cell_one0 h, hs⟩⟩

/-- A formula's atoms, put into an ascending list one after another. -/
def colT (acc : List ByteArray) (t : Tree) : List ByteArray := (atomKs (keysT t)).foldl (fun acc x => insS x acc) acc
def colL (acc : List ByteArray) (l : List Tree) : List ByteArray := (atomKs (keysL l)).foldl (fun acc x => insS x acc) acc
theorem atomKs_append (k m : List (Int × ByteArray × Nat)) : atomKs (k ++ m) = atomKs k ++ atomKs m := by simp [atomKs]
theorem colL_take (acc : List ByteArray) (l : List Tree) (k : Nat) (h : k < l.length) : colL acc (l.take (k + 1)) = colT (colL acc (l.take k)) l[k] := by
  unfold colL colT
  rw [keysL_take l k h, atomKs_append, List.foldl_append]
theorem colT_node (acc : List ByteArray) (op : Int) (name : ByteArray) (ts : List Tree) : colT acc (.node op name ts) = colL (if op = 3 ∧ ts.length = 0 then insS name acc else acc) ts := by
  unfold colT colL
  rw [keysT, ← List.singleton_append, atomKs_append, List.foldl_append]
  congr 1
  by_cases h : op = 3 ∧ ts.length = 0
  · rw [if_pos h]
    simp [atomKs, h.1, h.2]
  · rw [if_neg h]
    have : atomKs [(op, name, ts.length)] = [] := by
      unfold atomKs
      rw [List.filter_cons_of_neg (by simpa using h)]
      rfl
    rw [this]
    rfl
theorem foldl_ins_len : ∀ (l acc : List ByteArray), (l.foldl (fun acc x => insS x acc) acc).length ≤ acc.length + l.length
  | [], acc => by simp
  | x :: l, acc => by
    have h1 := foldl_ins_len l (insS x acc)
    have h2 := insS_len x acc
    simp only [List.foldl_cons, List.length_cons]
    omega
theorem colT_len (acc : List ByteArray) (t : Tree) : (colT acc t).length ≤ acc.length + t.nodes := by
  have h1 := foldl_ins_len (atomKs (keysT t)) acc
  have h2 := atomKs_len (keysT t)
  rw [keysT_len] at h2
  unfold colT
  omega
theorem colL_len (acc : List ByteArray) (l : List Tree) : (colL acc l).length ≤ acc.length + nodesL l := by
  have h1 := foldl_ins_len (atomKs (keysL l)) acc
  have h2 := atomKs_len (keysL l)
  have h3 : ∀ l : List Tree, (keysL l).length = nodesL l := fun l => by
    induction l with
    | nil => rfl
    | cons t l ih => rw [keysL, List.length_append, keysT_len, ih]; rfl
  rw [h3] at h2
  unfold colL
  omega
theorem atoms_col (t : Tree) : atomsT t = colT [] t := rfl
end Go.Proofs.YtilkpjcbmllgmaaGreatDoor

namespace Go.Proofs.YtilkpjcbmllgmaaGreatDoor
set_option linter.unusedVariables false
set_option linter.unusedSimpArgs false
open Go Go.RowKit

theorem blt_iff (a b : ByteArray) : Op.bytesLess a.toList b.toList = true ↔ a.data.toList < b.data.toList := by
  rw [Proofs.bytesLess_eq, Lib.toList_data, Lib.toList_data]
  simp

set_option maxRecDepth 100000 in
set_option maxHeartbeats 1000000 in
theorem qinsert_any (v : Value) (l : List ByteArray) (x : ByteArray) (hx : x.size ≤ maxLen) (hn : l.length ≤ 1000000) (w : World) (h : StrsV w v l) :
    Calls Tryz.prog 91 #[v, .string x] w fun e w' => ∃ u, e = .returned u ∧ StrsV w' u (insS x l) ∧ Below w.heap.size w w' := by
  have HV := hidIt h
  obtain ⟨a, c, rfl, hlc, hcm, ha, hs⟩ := h
  have HS := hidIt hs
  have HA := hidIt ha
  have HCM := hidIt hcm
  have HX := hidIt hx
  unfold maxLen at hcm
  clear hs ha hx
  go_enter Tryz.func91, Tryz.ntmps91
  go_wp2_with fail
  go_loop [5] (fun i => ∃ k : Nat, k ≤ l.length ∧ i = .int .i64 k ∧ Hid (∀ y ∈ l.take k, y.data.toList < x.data.toList)) (fun i => l.length - (intOf i).toNat)
  case atStart => exact ⟨0, Nat.zero_le _, rfl, by intro y hy; simp at hy⟩
  case round =>
    obtain ⟨k, hk, rfl, hno⟩ := hrel
    have hk0 : (0 : Int) ≤ (k : Int) := by omega
    have hkc : (k : Int) ≤ (c : Int) := by omega
    by_cases hlt : k < l.length
    · obtain ⟨b, off, rfl, c0, hsz⟩ := HS.out.at k hlt
      have hlt' : (k : Int) < (l.length : Int) := by omega
      have HST : Hid (l[k].data.toList < x.data.toList → ∀ y ∈ l.take (k + 1), y.data.toList < x.data.toList) := fun h y hy => by
        rw [take_snoc' l k hlt, List.mem_append] at hy
        rcases hy with hy | hy
        · exact hno.out y hy
        · rw [List.mem_singleton.1 hy]
          exact h
      have HSAME := hidIt (fun e => insS_same x l k hlt hno.out e)
      have HATT := hidIt (fun e1 e2 => insS_at x l k hlt hno.out e1 e2)
      have HLS := hidIt (blt_iff l[k] x)
      generalize l[k] = y at *
      cases hb : Op.bytesLess y.toList x.toList
      · cases he : (y.toList == x.toList)
        · have HI : Hid (insS x l = (l.take k ++ [x]) ++ l.drop k) := HATT.out (fun e => by rw [HLS.out.2 e] at hb; cases hb) (fun e => by rw [e, beq_self_eq_true] at he; cases he)
          clear HST HSAME HATT HLS
          have HT6 : Hid (StrsIn (w.alloc (.cells #[] 9)) (fun _ => True) (some ⟨b, off, none⟩) (l.take k)) := (HS.out.take k).go (Grows.alloc _ _)
          go_wp2_with (at_builtin; refine wpList_append_strsV rfl _ _ rfl w.heap.size _ [] rfl (OwnS.made w w.heap.size (Nat.le_refl _)) _ _ _ (l.take k) rfl (by simp; try omega) HT6.out (by simp) (by first | omega | (simp; done) | (simp; omega)) (by simp) ?_)
          intro v6 w6 ho6 hg6
          have hsz6 : w.heap.size < w6.heap.size := by have := hg6.size; simp at this; omega
          have HB6 : Hid (Below w.heap.size w w6) := below_over2 (Below.refl _ _) (Grows.alloc _ _) hg6 (fun g e => by simp [Value.ownBlock] at e; omega)
          have HO7 : Hid (OwnS (w6.drew.alloc (.cells #[.string x] 9)) w.heap.size v6 (l.take k)) := OwnS.go (l := (l.take k)) ho6 ((Below.refl _ _).drew.alloc (Nat.le_refl _) _)
          have HR7 : Hid (StrsIn (w6.drew.alloc (.cells #[.string x] 9)) (fun _ => True) (some ⟨w6.heap.size, 0, none⟩) [x]) := StrsIn.one (heap_alloc_new w6.drew _) trivial HX.out
          have HD7 : Hid (StrsIn w6 (fun i => i < w.heap.size) (if c = k then some ⟨b, off, none⟩ else some ⟨b, off + k, none⟩) (l.drop k)) := ((HS.out.mono (S' := fun i => i < w.heap.size) fun i hi _ => hi).kept fun i hi _ => HB6.out.block i hi).drop k hk hlc
          have HOB := hidIt (OwnS.block (l := (l.take k)) ho6)
          have hd7 : (l.drop k).length = l.length - k := by simp
          have hlk : (l.take k).length = k := by simp; try omega
          clear ho6 HT6
          go_wp2_with fail
          go_region_law (first
            | (refine step_append_strsV (by rfl) (.tmp 39) (.tmp 41) (by rfl) w.heap.size v6 (l.take k) (by rfl) HO7.out _ _ _ [x] (by rfl) (by rfl) HR7.out (by first | omega | (rw [hlk]; omega)) (by simp) (by simp; omega) ?_
               intro v8 w8 ho8 hg8
               have hob8 := ho8.block
               have hz8 := hg8.size)
            | (refine step_append_strsV (by rfl) (.tmp 42) (.tmp 45) (by rfl) w.heap.size v8 ((l.take k) ++ [x]) (by rfl) ho8 _ _ _ (l.drop k) (by rfl) (by simp) (StrsIn.mono (StrsIn.kept HD7.out fun i hi hl => (hg8.block i (by simp; omega) (fun e => by have := (HOB.out _ e.symm).1; omega)).trans (Below.heap_alloc _ _ _ (by simpa using hl))) fun _ _ _ => trivial) (by simp; try omega) (by rw [hd7]; omega) (by have := hg8.size; simp at this; omega) ?_
               intro v9 w9 ho9 hg9))
          all_goals (go_wp2_with fail)
          all_goals
            go_ret
            exact ⟨_, rfl, by rw [HI.out]; exact OwnS.strsV (l := ((l.take k) ++ [x]) ++ (l.drop k)) ho9, below_over2 (below_over2 HB6.out ((Below.refl _ _).drew.alloc (Nat.le_refl _) _) hg8 (fun g e => (HOB.out g e).1)) (Below.refl _ _) hg9 (fun g e => (hob8 g e).1)⟩
        · have HI : Hid (insS x l = l) := HSAME.out (by
            have h1 := eq_of_beq he
            rw [Lib.toList_data, Lib.toList_data] at h1
            exact bytes_eq h1)
          clear HST HSAME HATT HLS
          go_wp2_with fail
          go_ret
          exact ⟨_, rfl, by rw [HI.out]; exact HV.out, Below.refl _ _⟩
      · have HT := hidIt (HST.out (HLS.out.1 hb))
        clear HST HSAME HATT HLS
        go_wp2_with fail
        go_round
        case rel => exact ⟨k + 1, by omega, by go_num, HT⟩
        case measure => simp [intOf]; omega
    · obtain rfl : k = l.length := by omega
      have HI : Hid (insS x l = (l ++ [x]) ++ []) := by
        have := insS_end x l hno.out
        rw [List.take_length, List.drop_length] at this
        exact this
      rcases HA.out with ⟨rfl, rfl⟩ | ⟨b, off, rfl⟩
      · obtain rfl : l = [] := List.eq_nil_of_length_eq_zero (by omega)
        have HT6 : Hid (StrsIn (w.alloc (.cells #[] 9)) (fun _ => True) none ([] : List ByteArray)) := StrsIn.nil _
        go_wp2_with (at_builtin; refine wpList_append_strsV rfl _ _ rfl w.heap.size _ [] rfl (OwnS.made w w.heap.size (Nat.le_refl _)) _ _ _ ([] : List ByteArray) rfl (by simp; try omega) HT6.out (by simp) (by first | omega | (simp; done) | (simp; omega)) (by simp) ?_)
        intro v6 w6 ho6 hg6
        have hsz6 : w.heap.size < w6.heap.size := by have := hg6.size; simp at this; omega
        have HB6 : Hid (Below w.heap.size w w6) := below_over2 (Below.refl _ _) (Grows.alloc _ _) hg6 (fun g e => by simp [Value.ownBlock] at e; omega)
        have HO7 : Hid (OwnS (w6.drew.alloc (.cells #[.string x] 9)) w.heap.size v6 ([] : List ByteArray)) := OwnS.go (l := ([] : List ByteArray)) ho6 ((Below.refl _ _).drew.alloc (Nat.le_refl _) _)
        have HR7 : Hid (StrsIn (w6.drew.alloc (.cells #[.string x] 9)) (fun _ => True) (some ⟨w6.heap.size, 0, none⟩) [x]) := StrsIn.one (heap_alloc_new w6.drew _) trivial HX.out
        have HD7 : Hid (StrsIn w6 (fun i => i < w.heap.size) none ([] : List ByteArray)) := StrsIn.nil _
        have HOB := hidIt (OwnS.block (l := ([] : List ByteArray)) ho6)
        have hd7 : ([] : List ByteArray).length = 0 := rfl
        have hlk : ([] : List ByteArray).length = 0 := by simp; try omega
        clear ho6 HT6
        go_wp2_with fail
        go_region_law (first
          | (refine step_append_strsV (by rfl) (.tmp 39) (.tmp 41) (by rfl) w.heap.size v6 ([] : List ByteArray) (by rfl) HO7.out _ _ _ [x] (by rfl) (by rfl) HR7.out (by first | omega | (rw [hlk]; omega)) (by simp) (by simp; omega) ?_
             intro v8 w8 ho8 hg8
             have hob8 := ho8.block
             have hz8 := hg8.size)
          | (refine step_append_strsV (by rfl) (.tmp 42) (.tmp 45) (by rfl) w.heap.size v8 (([] : List ByteArray) ++ [x]) (by rfl) ho8 _ _ _ ([] : List ByteArray) (by rfl) (by simp) (StrsIn.mono (StrsIn.kept HD7.out fun i hi hl => (hg8.block i (by simp; omega) (fun e => by have := (HOB.out _ e.symm).1; omega)).trans (Below.heap_alloc _ _ _ (by simpa using hl))) fun _ _ _ => trivial) (by simp; try omega) (by rw [hd7]; omega) (by have := hg8.size; simp at this; omega) ?_
             intro v9 w9 ho9 hg9))
        all_goals (go_wp2_with fail)
        all_goals
          go_ret
          exact ⟨_, rfl, by rw [HI.out]; exact OwnS.strsV (l := (([] : List ByteArray) ++ [x]) ++ ([] : List ByteArray)) ho9, below_over2 (below_over2 HB6.out ((Below.refl _ _).drew.alloc (Nat.le_refl _) _) hg8 (fun g e => (HOB.out g e).1)) (Below.refl _ _) hg9 (fun g e => (hob8 g e).1)⟩
      · have HT6 : Hid (StrsIn (w.alloc (.cells #[] 9)) (fun _ => True) (some ⟨b, off, none⟩) l) := HS.out.go (Grows.alloc _ _)
        go_wp2_with (at_builtin; refine wpList_append_strsV rfl _ _ rfl w.heap.size _ [] rfl (OwnS.made w w.heap.size (Nat.le_refl _)) _ _ _ l rfl (by rfl) HT6.out (by simp) (by first | omega | (simp; done) | (simp; omega)) (by simp) ?_)
        intro v6 w6 ho6 hg6
        have hsz6 : w.heap.size < w6.heap.size := by have := hg6.size; simp at this; omega
        have HB6 : Hid (Below w.heap.size w w6) := below_over2 (Below.refl _ _) (Grows.alloc _ _) hg6 (fun g e => by simp [Value.ownBlock] at e; omega)
        have HO7 : Hid (OwnS (w6.drew.alloc (.cells #[.string x] 9)) w.heap.size v6 l) := OwnS.go (l := l) ho6 ((Below.refl _ _).drew.alloc (Nat.le_refl _) _)
        have HR7 : Hid (StrsIn (w6.drew.alloc (.cells #[.string x] 9)) (fun _ => True) (some ⟨w6.heap.size, 0, none⟩) [x]) := StrsIn.one (heap_alloc_new w6.drew _) trivial HX.out
        have HD7 : Hid (StrsIn w6 (fun i => i < w.heap.size) (if c = l.length then some ⟨b, off, none⟩ else some ⟨b, off + l.length, none⟩) ([] : List ByteArray)) := StrsIn.nil _
        have HOB := hidIt (OwnS.block (l := l) ho6)
        have hd7 : ([] : List ByteArray).length = 0 := rfl
        have hlk : l.length = l.length := rfl
        clear ho6 HT6
        go_wp2_with fail
        go_region_law (first
          | (refine step_append_strsV (by rfl) (.tmp 39) (.tmp 41) (by rfl) w.heap.size v6 l (by rfl) HO7.out _ _ _ [x] (by rfl) (by rfl) HR7.out (by first | omega | (rw [hlk]; omega)) (by simp) (by simp; omega) ?_
             intro v8 w8 ho8 hg8
             have hob8 := ho8.block
             have hz8 := hg8.size)
          | (refine step_append_strsV (by rfl) (.tmp 42) (.tmp 45) (by rfl) w.heap.size v8 (l ++ [x]) (by rfl) ho8 _ _ _ ([] : List ByteArray) (by rfl) (by simp) (StrsIn.mono (StrsIn.kept HD7.out fun i hi hl => (hg8.block i (by simp; omega) (fun e => by have := (HOB.out _ e.symm).1; omega)).trans (Below.heap_alloc _ _ _ (by simpa using hl))) fun _ _ _ => trivial) (by simp; try omega) (by rw [hd7]; omega) (by have := hg8.size; simp at this; omega) ?_
             intro v9 w9 ho9 hg9))
        all_goals (go_wp2_with fail)
        all_goals
          go_ret
          exact ⟨_, rfl, by rw [HI.out]; exact OwnS.strsV (l := (l ++ [x]) ++ ([] : List ByteArray)) ho9, below_over2 (below_over2 HB6.out ((Below.refl _ _).drew.alloc (Nat.le_refl _) _) hg8 (fun g e => (HOB.out g e).1)) (Below.refl _ _) hg9 (fun g e => (hob8 g e).1)⟩
end Go.Proofs.YtilkpjcbmllgmaaGreatDoor

namespace Go.Proofs.YtilkpjcbmllgmaaGreatDoor
set_option linter.unusedVariables false
set_option linter.unusedSimpArgs false
open Go Go.RowKit

set_option maxRecDepth 100000 in
set_option maxHeartbeats 2000000 in
theorem qcollect_any : ∀ t : Tree, ∀ (acc : List ByteArray) (u v : Value) (w : World), acc.length + t.nodes ≤ 1000000 → FormAt w none v t → StrsV w u acc →
    Calls Tryz.prog 52 #[u, v] w fun e w' => ∃ u', e = .returned u' ∧ StrsV w' u' (colT acc t) ∧ Below w.heap.size w w' := by
  refine Tree.ind fun op name ts ih acc u v w hn hv hu => ?_
  obtain ⟨a, cap, -, -, rfl, hop, hname, hlen, hcap, -, -⟩ := hv.form
  simp only [Tree.op_node, Tree.name_node, Tree.args_node] at *
  have HF0 : Hid (FormsAt w none a ts) := hv.forms
  have HNM := hidIt hname
  have hlt0 : ts.length ≤ 1000000 := by have h1 := nodes_len_le ts; simp only [Tree.nodes] at hn; omega
  have HNL : Hid (acc.length + (1 + nodesL ts) ≤ 1000000) := by simp only [Tree.nodes] at hn; exact hn
  have hacc : acc.length ≤ 999999 := by simp only [Tree.nodes] at hn; omega
  have HU0 := hidIt hu
  have IH := hidIt ih
  have HCN := hidIt (colT_node acc op name ts)
  unfold maxLen at hcap
  clear ih hn hv hu hop hname
  by_cases hat : op = 3 ∧ ts.length = 0
  case pos =>
    obtain ⟨rfl, hz⟩ := hat
    rw [if_pos ⟨rfl, hz⟩] at HCN
    obtain rfl : ts = [] := List.eq_nil_of_length_eq_zero hz
    simp only [List.length_nil] at *
    have HB1 : Hid (Below w.heap.size w (w.alloc (.cells #[.int .i64 3, .string name, .slice a 0 cap] 24))) := Grows.alloc _ _
    have HX1 := hidIt (heap_alloc_new w (.cells #[.int .i64 3, .string name, .slice a 0 cap] 24))
    have HU1 := hidIt (HU0.out.go HB1.out)
    have HE : Hid (colL (insS name acc) [] = insS name acc) := rfl
    go_enter Tryz.func52, Tryz.ntmps52
    go_wp2_with fail
    refine (qinsert_any u acc name HNM.out (by omega) _ HU1.out).mono ?_
    rintro e w1 ⟨u1, rfl, hs1, hb1⟩
    have HX2 := hidIt (blk_kept HX1.out hb1)
    have HB2 := hidIt (HB1.out.trans (Below.mono hb1 HB1.out.size))
    have HU2 := hidIt hs1
    obtain ⟨x0, x1, x2⟩ := cell_of3 HX2.out
    have hlx := lt_of_block HX2.out
    clear hs1 hb1 HX1 HB1 HU1 HX2 HU0
    go_wp2_with fail
    go_loopw [0, 5] (fun uu i wr => uu = u1 ∧ i = .int .i64 0 ∧ wr = w1) (fun _ _ _ => 0)
    case atStart => exact ⟨rfl, rfl, rfl⟩
    case round =>
      obtain ⟨rfl, rfl, rfl⟩ := hrel
      go_wp2_with fail
      go_ret
      exact ⟨_, rfl, by rw [HCN.out, HE.out]; exact HU2.out, HB2.out⟩
  case neg =>
    rw [if_neg hat] at HCN
    have hcs : (op == 3) = false ∨ (op = 3 ∧ ((ts.length : Int) == 0) = false) := by
      simp only [beq_eq_false_iff_ne]
      omega
    clear hat
    have HB1 : Hid (Below w.heap.size w (w.alloc (.cells #[.int .i64 op, .string name, .slice a ts.length cap] 24))) := Grows.alloc _ _
    have HX1 := hidIt (heap_alloc_new w (.cells #[.int .i64 op, .string name, .slice a ts.length cap] 24))
    have HU1 := hidIt (HU0.out.go HB1.out)
    have HF1 := hidIt (FormsIn.go HF0.out HB1.out)
    have HZ : Hid (colL acc (ts.take 0) = acc) := rfl
    have HLEN : Hid (∀ k, k ≤ ts.length → (colL acc (ts.take k)).length + (nodesL ts - nodesL (ts.take k)) ≤ 1000000) := fun k hk => by
      have h1 := colL_len acc (ts.take k)
      have h2 := HNL.out
      have h3 := nodesL_take_le ts k
      omega
    have HND : Hid (∀ k (h : k < ts.length), nodesL (ts.take k) + ts[k].nodes ≤ nodesL ts) := fun k h => by
      have h1 := nodesL_take ts k h
      have h2 := nodesL_take_le ts (k + 1)
      omega
    clear HU0 HF0
    rcases hcs with h3 | ⟨rfl, hz0⟩
    all_goals
      go_enter Tryz.func52, Tryz.ntmps52
      go_wp2_with fail
      generalize (w.alloc _) = w1 at *
      go_loopw [0, 5] (fun uu i wr => ∃ k : Nat, k ≤ ts.length ∧ i = .int .i64 k ∧ Hid (StrsV wr uu (colL acc (ts.take k))) ∧ Hid (Below w1.heap.size w1 wr)) (fun _ i _ => ts.length - (intOf i).toNat)
      case atStart => exact ⟨0, Nat.zero_le _, rfl, HU1.out, Below.refl _ _⟩
      case round =>
        obtain ⟨k, hk, rfl, hs, hbel⟩ := hrel
        have kX := blk_kept HX1.out hbel.out
        obtain ⟨x0, x1, x2⟩ := cell_of3 kX
        have hlx := lt_of_block kX
        clear kX
        by_cases hlt : k < ts.length
        · obtain ⟨b', off', a', c', rfl, c0, c1, c2, hf⟩ := (FormsIn.go HF1.out hbel.out).at k hlt
          have HM : Hid (ts[k] ∈ ts) := List.getElem_mem hlt
          have HTK := hidIt (colL_take acc ts k hlt)
          have HLK : Hid ((colL acc (ts.take k)).length + ts[k].nodes ≤ 1000000) := by
            have h1 := HLEN.out k hk
            have h2 := HND.out k hlt
            show _ ≤ _
            omega
          have HF := hidIt hf
          have hlt1 : (k : Int) < (ts.length : Int) := by omega
          have hk0 : (0 : Int) ≤ (k : Int) := by omega
          clear hf
          generalize ts[k] = t at *
          generalize colL acc (ts.take k) = ac at *
          go_wp2_with fail
          refine (IH.out t HM.out ac _ _ _ HLK.out HF.out hs.out).mono ?_
          rintro e w2 ⟨u2, rfl, hs2, hb2⟩
          have HS2 := hidIt hs2
          have HB2 := hidIt (hbel.out.trans (Below.mono hb2 hbel.out.size))
          clear hs2 hb2
          go_wp2_with fail
          go_roundw
          case rel => exact ⟨k + 1, by omega, by go_num, by rw [HTK.out]; exact HS2.out, HB2.out⟩
          case measure => simp [intOf]; omega
        · obtain rfl : k = ts.length := by omega
          rw [List.take_length] at hs
          go_wp2_with fail
          go_ret
          exact ⟨_, rfl, by rw [HCN.out]; exact hs.out, HB1.out.trans (Below.mono hbel.out HB1.out.size)⟩

set_option maxRecDepth 100000 in
set_option maxHeartbeats 1000000 in
theorem qatoms_any (t : Tree) (v : Value) (w : World) (hn : t.nodes ≤ 1000000) (hv : FormAt w none v t) :
    Calls Tryz.prog 13 #[v] w fun e w' => ∃ u, e = .returned u ∧ StrsV w' u (atomsT t) ∧ Below w.heap.size w w' := by
  obtain ⟨a, cap, -, -, rfl, hop, hname, hlen, hcap, -, -⟩ := hv.form
  have hb0 : Below w.heap.size w (w.alloc (.cells #[.int .i64 t.op, .string t.name, .slice a t.args.length cap] 24)) := Grows.alloc _ _
  have HF := hidIt (FormAt.go hv hb0)
  have HB := hidIt hb0
  clear hv hb0 hop hname hlen hcap
  go_enter Tryz.func13, Tryz.ntmps13
  go_wp2_with fail
  refine (qcollect_any t [] _ _ _ (by simpa using hn) HF.out (StrsV.nil _)).mono ?_
  rintro e w1 ⟨u1, rfl, hs1, hb1⟩
  have HS1 := hidIt hs1
  have HB1 := hidIt (HB.out.trans (Below.mono hb1 HB.out.size))
  clear hs1 hb1
  go_wp2_with fail
  go_ret
  exact ⟨_, rfl, by rw [atoms_col]; exact HS1.out, HB1.out⟩
end Go.Proofs.YtilkpjcbmllgmaaGreatDoor

namespace Go.Proofs.YtilkpjcbmllgmaaGreatDoor
set_option linter.unusedVariables false
set_option linter.unusedSimpArgs false
open Go.RowKit

set_option maxRecDepth 100000 in
set_option maxHeartbeats 1000000 in
theorem qsize_any : ∀ (t : Tree) (v : Value) (w : World), FormAt w none v t → t.nodes ≤ 1000000000 →
    Calls Tryz.prog 102 #[v] w fun e w' => e = .returned (.int .i64 t.nodes) ∧ Below w.heap.size w w' := by
  refine Tree.ind fun op name ts ih v w hv hn => ?_
  obtain ⟨a, cap, b, off, rfl, hop, hname, hlen, hcap, -, -⟩ := hv.form
  have HV := hidIt hv.forms
  simp only [Tree.op_node, Tree.name_node, Tree.args_node] at *
  have HN : Hid ((Tree.node op name ts).nodes = 1 + nodesL ts) := by show _ = _; simp [Tree.nodes]
  have hn' : 1 + nodesL ts ≤ 1000000000 := by rw [← HN.out]; exact hn
  have hlt : ts.length ≤ nodesL ts := nodes_len_le ts
  have IH := hidIt ih
  unfold maxLen at hcap
  clear ih hv hn
  go_enter Tryz.func102, Tryz.ntmps102
  go_wp2_with fail
  have hb0 : Below w.heap.size w (w.alloc (.cells #[.int .i64 op, .string name, .slice a ts.length cap] 24)) := (Below.refl _ _).alloc (Nat.le_refl _) _
  have HB0 := hidIt hb0
  have HX : Hid ((w.alloc (.cells #[.int .i64 op, .string name, .slice a ts.length cap] 24)).heap[w.heap.size]? = some (.cells #[.int .i64 op, .string name, .slice a ts.length cap] 24 (0, 0))) := heap_alloc_new w _
  clear hb0
  generalize (w.alloc (.cells #[.int .i64 op, .string name, .slice a ts.length cap] 24)) = W at *
  go_loopw [3, 4] (fun t i wr => ∃ k : Nat, k ≤ ts.length ∧ i = .int .i64 k ∧ t = .int .i64 (1 + nodesL (ts.take k) : Nat) ∧ Hid (Below W.heap.size W wr)) (fun _ i _ => ts.length - (intOf i).toNat)
  case atStart => exact ⟨0, Nat.zero_le _, rfl, by simp [nodesL], Below.refl _ _⟩
  case round =>
    obtain ⟨k, hk, rfl, rfl, hbel⟩ := hrel
    have HBw := hidIt (HB0.out.trans (hbel.out.mono HB0.out.size))
    have kX := blk_kept HX.out hbel.out
    obtain ⟨x0, x1, x2⟩ := cell_of3 kX
    have hlx := lt_of_block kX
    clear kX
    by_cases hlt : k < ts.length
    · obtain ⟨b', off', a', c', rfl, c0, c1, c2, hf⟩ := (HV.out.go HBw.out).at k hlt
      have HF := hidIt hf
      have hs := nodesL_take ts k hlt
      have hs2 := nodesL_take_le ts (k + 1)
      have HS := hidIt hs
      have hb1 : nodesL (ts.take k) ≤ 1000000000 := by omega
      have hb2 : nodesL (ts.take k) + (ts[k]).nodes ≤ 1000000000 := by omega
      have hm : ts[k] ∈ ts := List.getElem_mem hlt
      clear hf hs hs2
      generalize ts[k] = t at *
      have hlt0 : (k : Int) < (ts.length : Int) := by omega
      have hk0 : (0 : Int) ≤ (k : Int) := by omega
      have hb3 : t.nodes ≤ 1000000000 := by omega
      go_wp2_with fail
      refine (IH.out t hm _ _ HF.out hb3).mono ?_
      rintro e w5 ⟨rfl, h5⟩
      have HB5 : Hid (Below W.heap.size W w5) := hbel.out.trans (Below.mono h5 hbel.out.size)
      clear h5
      go_wp2_with fail
      go_roundw
      case rel => exact ⟨k + 1, by omega, by go_num, by rw [HS.out]; go_num, HB5.out⟩
      case measure => simp [intOf]; omega
    · go_wp2_with fail
      go_ret
      exact ⟨ret_int (by rw [HN.out, List.take_of_length_le (by omega)]), HBw.out⟩
set_option maxRecDepth 100000 in
set_option maxHeartbeats 1000000 in
theorem qdepth_any : ∀ (t : Tree) (v : Value) (w : World), FormAt w none v t → t.nodes ≤ 1000000000 →
    Calls Tryz.prog 103 #[v] w fun e w' => e = .returned (.int .i64 t.depth) ∧ Below w.heap.size w w' := by
  refine Tree.ind fun op name ts ih v w hv hn => ?_
  obtain ⟨a, cap, b, off, rfl, hop, hname, hlen, hcap, -, -⟩ := hv.form
  have HV := hidIt hv.forms
  simp only [Tree.op_node, Tree.name_node, Tree.args_node] at *
  have HN : Hid ((Tree.node op name ts).nodes = 1 + nodesL ts) := by show _ = _; simp [Tree.nodes]
  have HD : Hid ((Tree.node op name ts).depth = depthL ts) := by show _ = _; simp [Tree.depth]
  have hn' : 1 + nodesL ts ≤ 1000000000 := by rw [← HN.out]; exact hn
  have hlt : ts.length ≤ nodesL ts := nodes_len_le ts
  have IH := hidIt ih
  unfold maxLen at hcap
  clear ih hv hn
  go_enter Tryz.func103, Tryz.ntmps103
  go_wp2_with fail
  have hb0 : Below w.heap.size w (w.alloc (.cells #[.int .i64 op, .string name, .slice a ts.length cap] 24)) := (Below.refl _ _).alloc (Nat.le_refl _) _
  have HB0 := hidIt hb0
  have HX : Hid ((w.alloc (.cells #[.int .i64 op, .string name, .slice a ts.length cap] 24)).heap[w.heap.size]? = some (.cells #[.int .i64 op, .string name, .slice a ts.length cap] 24 (0, 0))) := heap_alloc_new w _
  clear hb0
  generalize (w.alloc (.cells #[.int .i64 op, .string name, .slice a ts.length cap] 24)) = W at *
  go_loopw [3, 4] (fun t i wr => ∃ k : Nat, k ≤ ts.length ∧ i = .int .i64 k ∧ t = .int .i64 (depthL (ts.take k) : Nat) ∧ Hid (Below W.heap.size W wr)) (fun _ i _ => ts.length - (intOf i).toNat)
  case atStart => exact ⟨0, Nat.zero_le _, rfl, by simp [depthL], Below.refl _ _⟩
  case round =>
    obtain ⟨k, hk, rfl, rfl, hbel⟩ := hrel
    have HBw := hidIt (HB0.out.trans (hbel.out.mono HB0.out.size))
    have kX := blk_kept HX.out hbel.out
    obtain ⟨x0, x1, x2⟩ := cell_of3 kX
    have hlx := lt_of_block kX
    clear kX
    by_cases hlt : k < ts.length
    · obtain ⟨b', off', a', c', rfl, c0, c1, c2, hf⟩ := (HV.out.go HBw.out).at k hlt
      have HF := hidIt hf
      have hs := nodesL_take ts k hlt
      have hs2 := nodesL_take_le ts (k + 1)
      have HS := hidIt (depthL_take ts k hlt)
      have hd1 : depthL (ts.take k) ≤ 1000000000 := by
        have h1 := depthL_take_le ts k
        have h2 := depth_lt_nodes (Tree.node op name ts)
        rw [HN.out, HD.out] at h2
        omega
      have hd2 : (ts[k]).depth < (ts[k]).nodes := depth_lt_nodes _
      have hb1 : nodesL (ts.take k) ≤ 1000000000 := by omega
      have hb2 : nodesL (ts.take k) + (ts[k]).nodes ≤ 1000000000 := by omega
      have hm : ts[k] ∈ ts := List.getElem_mem hlt
      clear hf hs hs2
      generalize ts[k] = t at *
      have hlt0 : (k : Int) < (ts.length : Int) := by omega
      have hk0 : (0 : Int) ≤ (k : Int) := by omega
      have hb3 : t.nodes ≤ 1000000000 := by omega
      go_wp2_with fail
      refine (IH.out t hm _ _ HF.out hb3).mono ?_
      rintro e w5 ⟨rfl, h5⟩
      have HB5 : Hid (Below W.heap.size W w5) := hbel.out.trans (Below.mono h5 hbel.out.size)
      clear h5
      go_wp2_with fail
      go_roundw
      case rel => exact ⟨k + 1, by omega, by go_num, by rw [HS.out]; go_num, HB5.out⟩
      case measure => simp [intOf]; omega
    · go_wp2_with fail
      go_ret
      exact ⟨ret_int (by rw [HD.out, List.take_of_length_le (by omega)]), HBw.out⟩

set_option maxRecDepth 100000 in
set_option maxHeartbeats 1000000 in
theorem qkinds_any : ∀ (t : Tree) (v : Value) (w : World), FormAt w none v t →
    Calls Tryz.prog 55 #[v] w fun e w' => e = .returned (.bool (t.all kindB)) ∧ Below w.heap.size w w' := by
  refine Tree.ind fun op name ts ih v w hv => ?_
  obtain ⟨a, cap, b, off, rfl, hop, hname, hlen, hcap, -, -⟩ := hv.form
  have HV := hidIt hv.forms
  have HR : Hid ((Tree.node op name ts).all kindB = (kindB (.node op name ts) && allL kindB ts)) := by show _ = _; simp [Tree.all]
  have HK : Hid (kindB (.node op name ts) = if op = 1 ∨ op = 2 ∨ op = 3 then ts.length == 0
    else if op = 4 then ts.length == 1
    else if op = 5 ∨ op = 6 then decide (2 ≤ ts.length ∧ ts.length ≤ 6)
    else if op = 7 ∨ op = 8 then ts.length == 2
    else false) := rfl
  simp only [Tree.op_node, Tree.name_node, Tree.args_node] at *
  generalize kindB (.node op name ts) = kb at *
  have IH := hidIt ih
  unfold maxLen at hcap
  clear ih hv
  have hnn : (0 : Int) ≤ ts.length := by omega
  obtain ⟨O, hO⟩ : ∃ O : Obj, O = .cells #[.int .i64 op, .string name, .slice a ts.length cap] 24 := ⟨_, rfl⟩
  have hO := hidIt hO
  have hcs : op = 1 ∨ op = 2 ∨ op = 3 ∨ op = 4 ∨ ((op = 5 ∨ op = 6) ∧ (2 : Int) ≤ ts.length) ∨ ((op = 5 ∨ op = 6) ∧ (ts.length : Int) < 2) ∨ op = 7 ∨ op = 8 ∨
      ((op == 1) = false ∧ (op == 2) = false ∧ (op == 3) = false ∧ (op == 4) = false ∧ (op == 5) = false ∧ (op == 6) = false ∧ (op == 7) = false ∧ (op == 8) = false) := by
    simp only [beq_eq_false_iff_ne]
    omega
  rcases hcs with rfl | rfl | rfl | rfl | ⟨rfl | rfl, hn2⟩ | ⟨rfl | rfl, hn2⟩ | rfl | rfl | ⟨e1, e2, e3, e4, e5, e6, e7, e8⟩
  all_goals
    go_enter Tryz.func55, Tryz.ntmps55
    go_wp2_with fail
  all_goals
    rw [← hO.out]
    have HB0 : Hid (Below w.heap.size w (w.alloc O)) := (Below.refl _ _).alloc (Nat.le_refl _) _
    have HX : Hid ((w.alloc O).heap[w.heap.size]? = some O) := heap_alloc_new w _
    generalize w.alloc O = W at *
    rw [hO.out] at HX
    go_loopw [4, 5] (fun ok i wr => ∃ k : Nat, k ≤ ts.length ∧ i = .int .i64 k ∧ ok = .bool (kb && allL kindB (ts.take k)) ∧ Hid (Below W.heap.size W wr)) (fun _ i _ => ts.length - (intOf i).toNat)
    case atStart => exact ⟨0, Nat.zero_le _, rfl, by rw [HK.out]; refine congrArg Value.bool ?_; first | (simp [allL]; done) | (rw [Bool.eq_iff_iff]; simp [allL]; omega) | ((try simp only [beq_eq_false_iff_ne] at *); first | (rw [Bool.eq_iff_iff]; simp_all [allL]; done) | (simp_all [allL]; done) | (trace_state; fail)), Below.refl _ _⟩
    case round =>
      obtain ⟨k, hk, rfl, rfl, hbel⟩ := hrel
      have HBw := hidIt (HB0.out.trans (hbel.out.mono HB0.out.size))
      have kX := blk_kept HX.out hbel.out
      obtain ⟨x0, x1, x2⟩ := cell_of3 kX
      have hlx := lt_of_block kX
      clear kX
      by_cases hlt : k < ts.length
      · obtain ⟨b', off', a', c', rfl, c0, c1, c2, hf⟩ := (HV.out.go HBw.out).at k hlt
        have HF := hidIt hf
        have HS := hidIt (allL_take kindB ts k hlt)
        have hm : ts[k] ∈ ts := List.getElem_mem hlt
        clear hf
        generalize ts[k] = t at *
        have hlt0 : (k : Int) < (ts.length : Int) := by omega
        have hk0 : (0 : Int) ≤ (k : Int) := by omega
        generalize hz : (kb && allL kindB (ts.take k)) = z
        have HZ := hidIt hz
        clear hz
        cases z
        · go_wp2_with fail
          go_roundw
          case rel => exact ⟨k + 1, by omega, by go_num, by rw [HS.out, ← Bool.and_assoc, HZ.out]; rfl, hbel.out⟩
          case measure => simp [intOf]; omega
        · go_wp2_with fail
          refine (IH.out t hm _ _ HF.out).mono ?_
          rintro e w5 ⟨rfl, h5⟩
          have HB5 : Hid (Below W.heap.size W w5) := hbel.out.trans (Below.mono h5 hbel.out.size)
          clear h5
          go_wp2_with fail
          go_roundw
          case rel => exact ⟨k + 1, by omega, by go_num, by rw [HS.out, ← Bool.and_assoc, HZ.out]; rfl, HB5.out⟩
          case measure => simp [intOf]; omega
      · go_wp2_with fail
        go_ret
        exact ⟨ret_bool (by rw [HR.out, List.take_of_length_le (by omega)]), HBw.out⟩

set_option maxRecDepth 100000 in
set_option maxHeartbeats 1000000 in
theorem qnames_any : ∀ (t : Tree) (v : Value) (w : World), FormAt w none v t →
    Calls Tryz.prog 56 #[v] w fun e w' => e = .returned (.bool (t.all nameB)) ∧ Below w.heap.size w w' := by
  refine Tree.ind fun op name ts ih v w hv => ?_
  obtain ⟨a, cap, b, off, rfl, hop, hname, hlen, hcap, -, -⟩ := hv.form
  have HV := hidIt hv.forms
  have HR : Hid ((Tree.node op name ts).all nameB = (nameB (.node op name ts) && allL nameB ts)) := by show _ = _; simp [Tree.all]
  have HK : Hid (nameB (.node op name ts) = if op = 3 then vn name else name.size == 0) := rfl
  have HE := hidIt (isEmpty_size name)
  simp only [Tree.op_node, Tree.name_node, Tree.args_node] at *
  generalize nameB (.node op name ts) = kb at *
  have IH := hidIt ih
  unfold maxLen at hcap
  clear ih hv
  obtain ⟨O, hO⟩ : ∃ O : Obj, O = .cells #[.int .i64 op, .string name, .slice a ts.length cap] 24 := ⟨_, rfl⟩
  have hO := hidIt hO
  have hcs : op = 3 ∨ (op == 3) = false := by
    simp only [beq_eq_false_iff_ne]
    omega
  rcases hcs with rfl | e3
  all_goals
    go_enter Tryz.func56, Tryz.ntmps56
    go_wp2_with (go_at_call 70; refine (rValidName_any _ _ hname).mono ?_; rintro e w' ⟨rfl, rfl⟩)
    rw [← hO.out]
    have HB0 : Hid (Below w.heap.size w (w.alloc O)) := (Below.refl _ _).alloc (Nat.le_refl _) _
    have HX : Hid ((w.alloc O).heap[w.heap.size]? = some O) := heap_alloc_new w _
    generalize w.alloc O = W at *
    rw [hO.out] at HX
    go_loopw [3, 4] (fun ok i wr => ∃ k : Nat, k ≤ ts.length ∧ i = .int .i64 k ∧ ok = .bool (kb && allL nameB (ts.take k)) ∧ Hid (Below W.heap.size W wr)) (fun _ i _ => ts.length - (intOf i).toNat)
    case atStart => exact ⟨0, Nat.zero_le _, rfl, by rw [HK.out]; refine congrArg Value.bool ?_; first | (simp_all [allL]; done) | (simp_all [allL]; exact HE.out), Below.refl _ _⟩
    case round =>
      obtain ⟨k, hk, rfl, rfl, hbel⟩ := hrel
      have HBw := hidIt (HB0.out.trans (hbel.out.mono HB0.out.size))
      have kX := blk_kept HX.out hbel.out
      obtain ⟨x0, x1, x2⟩ := cell_of3 kX
      have hlx := lt_of_block kX
      clear kX
      by_cases hlt : k < ts.length
      · obtain ⟨b', off', a', c', rfl, c0, c1, c2, hf⟩ := (HV.out.go HBw.out).at k hlt
        have HF := hidIt hf
        have HS := hidIt (allL_take nameB ts k hlt)
        have hm : ts[k] ∈ ts := List.getElem_mem hlt
        clear hf
        generalize ts[k] = t at *
        have hlt0 : (k : Int) < (ts.length : Int) := by omega
        have hk0 : (0 : Int) ≤ (k : Int) := by omega
        generalize hz : (kb && allL nameB (ts.take k)) = z
        have HZ := hidIt hz
        clear hz
        cases z
        · go_wp2_with fail
          go_roundw
          case rel => exact ⟨k + 1, by omega, by go_num, by rw [HS.out, ← Bool.and_assoc, HZ.out]; rfl, hbel.out⟩
          case measure => simp [intOf]; omega
        · go_wp2_with fail
          refine (IH.out t hm _ _ HF.out).mono ?_
          rintro e w5 ⟨rfl, h5⟩
          have HB5 : Hid (Below W.heap.size W w5) := hbel.out.trans (Below.mono h5 hbel.out.size)
          clear h5
          go_wp2_with fail
          go_roundw
          case rel => exact ⟨k + 1, by omega, by go_num, by rw [HS.out, ← Bool.and_assoc, HZ.out]; rfl, HB5.out⟩
          case measure => simp [intOf]; omega
      · go_wp2_with fail
        go_ret
        exact ⟨ret_bool (by rw [HR.out, List.take_of_length_le (by omega)]), HBw.out⟩
end Go.Proofs.YtilkpjcbmllgmaaGreatDoor

namespace Go.Proofs.YtilkpjcbmllgmaaGreatDoor
set_option linter.unusedVariables false
set_option linter.unusedSimpArgs false
open Go Go.RowKit

def QVal (l : List ByteArray) (t : Tree) : Prop := ∀ (v : Value) (a : Option Addr) (c : Nat) (w : World), FormAt w none v t → StrsIn w (fun _ => True) a l → Calls Tryz.prog 57 #[v, .slice a l.length c] w fun e w' => e = .returned (.bool (valueB (inB l) t)) ∧ Below w.heap.size w w'

theorem two_of {ts : List Tree} (h : ts.length = 2) : ∃ t u, ts = [t, u] := by
  match ts, h with
  | [t, u], _ => exact ⟨t, u, rfl⟩

theorem take_all {p : Tree → Bool} (ts : List Tree) (k : Nat) (h : k < ts.length) : (ts.take (k + 1)).all p = ((ts.take k).all p && p ts[k]) := by
  rw [List.take_succ_eq_append_getElem h, List.all_append]; simp
theorem take_any {p : Tree → Bool} (ts : List Tree) (k : Nat) (h : k < ts.length) : (ts.take (k + 1)).any p = ((ts.take k).any p || p ts[k]) := by
  rw [List.take_succ_eq_append_getElem h, List.any_append]; simp
theorem inB_takeQ (l : List ByteArray) (k : Nat) (h : k < l.length) (s : ByteArray) : inB (l.take (k + 1)) s = (inB (l.take k) s || (l[k].data.toList == s.data.toList)) := by
  unfold inB
  rw [List.take_succ_eq_append_getElem h, List.any_append]; simp
theorem all_false {p : Tree → Bool} (ts : List Tree) (k : Nat) (h : k < ts.length) (hp : p ts[k] = false) : ts.all p = false := by
  rw [List.all_eq_false]
  exact ⟨_, List.getElem_mem h, by simp [hp]⟩
theorem any_true {p : Tree → Bool} (ts : List Tree) (k : Nat) (h : k < ts.length) (hp : p ts[k] = true) : ts.any p = true := by
  rw [List.any_eq_true]
  exact ⟨_, List.getElem_mem h, hp⟩
theorem inB_at (l : List ByteArray) (k : Nat) (h : k < l.length) : inB l l[k] = true := by
  unfold inB
  rw [List.any_eq_true]
  exact ⟨_, List.getElem_mem h, by simp⟩

set_option maxRecDepth 100000 in
set_option maxHeartbeats 4000000 in
theorem qvalue_any (l : List ByteArray) (hl : l.length ≤ 1000000) : ∀ t : Tree, t.all kindB = true → QVal l t := by
  refine Tree.ind fun op name ts ih hk v ya yc w hv hy => ?_
  obtain ⟨k1, k2⟩ := all_self hk
  have hargs := kindB_args k1
  have IH := hidIt (fun t ht => ih t ht (allL_mem k2 t ht))
  obtain ⟨a, cap, b, off, rfl, hop, hname, hlen', hcap, -, -⟩ := hv.form
  simp only [Tree.op_node, Tree.name_node, Tree.args_node] at *
  have hop8 : op = 1 ∨ op = 2 ∨ op = 3 ∨ op = 4 ∨ op = 5 ∨ op = 6 ∨ op = 7 ∨ op = 8 := by
    unfold kindB at k1
    simp only [Tree.op_node] at k1
    grind
  have hb0 : ∀ O : Obj, Below w.heap.size w (w.alloc O) := fun O => Grows.alloc _ _
  have HF0 : Hid (FormsAt w none a ts) := hv.forms
  have HY0 := hidIt hy
  unfold maxLen at hcap
  clear ih hk k1 k2 hv hop hy
  obtain ⟨h4, h5, h7⟩ := hargs
  obtain ⟨O, hO⟩ : ∃ O : Obj, O = .cells #[.int .i64 op, .string name, .slice a ts.length cap] 24 := ⟨_, rfl⟩
  have HB := hidIt (hb0 O)
  have HX := hidIt (heap_alloc_new w O)
  have HO := hidIt hO
  clear hb0 hO
  rcases hop8 with rfl | rfl | rfl | rfl | rfl | rfl | rfl | rfl
  · have HE : Hid (valueB (inB l) (.node 1 name ts) = true) := by show _ = _; simp [valueB]
    clear h4 h5 h7
    go_enter Tryz.func57, Tryz.ntmps57
    go_wp2_with fail
    go_ret
    exact ⟨ret_bool HE.out.symm, by rw [← HO.out]; exact HB.out⟩
  · have HE : Hid (valueB (inB l) (.node 2 name ts) = false) := by show _ = _; simp [valueB]
    clear h4 h5 h7
    go_enter Tryz.func57, Tryz.ntmps57
    go_wp2_with fail
    go_ret
    exact ⟨ret_bool HE.out.symm, by rw [← HO.out]; exact HB.out⟩
  · have HE : Hid (valueB (inB l) (.node 3 name ts) = inB l name) := by show _ = _; simp [valueB]
    clear h4 h5 h7
    go_enter Tryz.func57, Tryz.ntmps57
    go_wp2_with fail
    rw [← HO.out]
    generalize w.alloc O = W at *
    have HY := hidIt (HY0.out.go HB.out)
    rw [HO.out] at HX
    go_loopw [5] (fun i wr => ∃ k : Nat, k ≤ l.length ∧ i = .int .i64 k ∧ Hid (inB (l.take k) name = false) ∧ Hid (Below W.heap.size W wr)) (fun i _ => l.length - (intOf i).toNat)
    case atStart => exact ⟨0, Nat.zero_le _, rfl, rfl, Below.refl _ _⟩
    case round =>
      obtain ⟨k, hk, rfl, hno, hbel⟩ := hrel
      have HBw := hidIt (HB.out.trans (Below.mono hbel.out HB.out.size))
      have kX := blk_kept HX.out hbel.out
      obtain ⟨x0, x1, x2⟩ := cell_of3 kX
      have hlx := lt_of_block kX
      clear kX
      by_cases hlt : k < l.length
      · obtain ⟨b', off', rfl, c0, -⟩ := (HY.out.go hbel.out).at k hlt
        have hlt0 : (k : Int) < (l.length : Int) := by omega
        have hk0 : (0 : Int) ≤ (k : Int) := by omega
        have HT := hidIt (inB_takeQ l k hlt name)
        have HAT := hidIt (inB_at l k hlt)
        have HNX := hidIt (fun n : Nat => (⟨hbel.out.os, hbel.out.tape, hbel.out.output, hbel.out.size, hbel.out.block⟩ : Below W.heap.size W (wr.drewN n)))
        generalize l[k] = y at *
        by_cases hyn : y = name
        · subst hyn
          go_wp2_with fail
          go_quiet (fail)
          go_wp2_with fail
          go_ret
          exact ⟨ret_bool (HE.out.trans HAT.out).symm, HB.out.trans (Below.mono (HNX.out _) HB.out.size)⟩
        · have HF : Hid ((y.data.toList == name.data.toList) = false) := beq_eq_false_iff_ne.2 (fun e => hyn (ByteArray.ext (Array.toList_inj.1 e)))
          have hyf : (y.toList == name.toList) = false := by
            rw [beq_eq_false_iff_ne]
            intro e
            rw [Lib.toList_data, Lib.toList_data] at e
            exact hyn (ByteArray.ext (Array.toList_inj.1 e))
          go_wp2_with fail
          go_quiet (fail)
          go_wp2_with fail
          go_roundw
          case rel => exact ⟨k + 1, by omega, by go_num, by show _ = _; rw [HT.out, hno.out, HF.out]; rfl, HNX.out _⟩
          case measure => simp [intOf]; omega
      · go_wp2_with fail
        go_ret
        exact ⟨ret_bool (by rw [HE.out, ← hno.out, List.take_of_length_le (by omega)]), HBw.out⟩
  · obtain ⟨t, rfl⟩ : ∃ t, ts = [t] := List.length_eq_one_iff.1 (h4 rfl)
    have HE : Hid (valueB (inB l) (.node 4 name [t]) = !(valueB (inB l) t)) := by show _ = _; simp [valueB, valuesB]
    have hO := HO.out
    subst hO
    obtain ⟨b', off', a', c', rfl, c0, c1, c2, hf⟩ := (HF0.out.go HB.out).at 0 (by simp)
    simp only [List.getElem_cons_zero, Nat.zero_mul, Nat.add_zero] at c0 c1 c2 hf
    simp only [List.length_singleton] at *
    have HF := hidIt hf
    have HY := hidIt (HY0.out.go HB.out)
    have HT := hidIt (IH.out t (by simp))
    clear hf h4 h5 h7 IH HF0 HY0
    go_enter Tryz.func57, Tryz.ntmps57
    go_wp2_with fail
    refine (HT.out _ _ _ _ HF.out HY.out).mono ?_
    rintro e w5 ⟨rfl, h5⟩
    have HB5 := hidIt (HB.out.trans (Below.mono h5 HB.out.size))
    clear h5
    generalize valueB (inB l) t = p at *
    go_wp2_with fail
    go_ret
    exact ⟨ret_bool HE.out.symm, HB5.out⟩
  · have HE : Hid (valueB (inB l) (.node 5 name ts) = ts.all (valueB (inB l))) := by show _ = _; simp [valueB, valuesB_map, List.all_map]
    clear h4 h5 h7
    have hnn : (0 : Int) ≤ ts.length := by omega
    go_enter Tryz.func57, Tryz.ntmps57
    go_wp2_with fail
    rw [← HO.out]
    generalize w.alloc O = W at *
    have HY := hidIt (HY0.out.go HB.out)
    have HFS := hidIt (HF0.out.go HB.out)
    rw [HO.out] at HX
    go_loopw [6] (fun i wr => ∃ k : Nat, k ≤ ts.length ∧ i = .int .i64 k ∧ Hid ((ts.take k).all (valueB (inB l)) = true) ∧ Hid (Below W.heap.size W wr)) (fun i _ => ts.length - (intOf i).toNat)
    case atStart => exact ⟨0, Nat.zero_le _, rfl, rfl, Below.refl _ _⟩
    case round =>
      obtain ⟨k, hk, rfl, hno, hbel⟩ := hrel
      have HBw := hidIt (HB.out.trans (Below.mono hbel.out HB.out.size))
      have kX := blk_kept HX.out hbel.out
      obtain ⟨x0, x1, x2⟩ := cell_of3 kX
      have hlx := lt_of_block kX
      clear kX
      by_cases hlt : k < ts.length
      · obtain ⟨b', off', a', c', rfl, c0, c1, c2, hf⟩ := (HFS.out.go hbel.out).at k hlt
        have HF := hidIt hf
        have HYw := hidIt (HY.out.go hbel.out)
        have HM : Hid (ts[k] ∈ ts) := List.getElem_mem hlt
        have HT := hidIt (take_all (p := valueB (inB l)) ts k hlt)
        have HAT := hidIt (all_false (p := valueB (inB l)) ts k hlt)
        have hlt0 : (k : Int) < (ts.length : Int) := by omega
        have hk0 : (0 : Int) ≤ (k : Int) := by omega
        clear hf
        generalize ts[k] = t at *
        go_wp2_with fail
        refine (IH.out t HM.out _ _ _ _ HF.out HYw.out).mono ?_
        rintro e w5 ⟨rfl, h5⟩
        have HB5 := hidIt (hbel.out.trans (Below.mono h5 hbel.out.size))
        clear h5
        generalize valueB (inB l) t = p at *
        cases p
        · go_wp2_with fail
          go_ret
          exact ⟨ret_bool (HE.out.trans (HAT.out trivial)).symm, HB.out.trans (Below.mono HB5.out HB.out.size)⟩
        · go_wp2_with fail
          go_roundw
          case rel => exact ⟨k + 1, by omega, by go_num, by show _ = _; rw [HT.out, hno.out]; rfl, HB5.out⟩
          case measure => simp [intOf]; omega
      · go_wp2_with fail
        go_ret
        exact ⟨ret_bool (by rw [HE.out, ← hno.out, List.take_of_length_le (by omega)]), HBw.out⟩
  · have HE : Hid (valueB (inB l) (.node 6 name ts) = ts.any (valueB (inB l))) := by show _ = _; simp [valueB, valuesB_map, List.any_map]
    clear h4 h5 h7
    have hnn : (0 : Int) ≤ ts.length := by omega
    go_enter Tryz.func57, Tryz.ntmps57
    go_wp2_with fail
    rw [← HO.out]
    generalize w.alloc O = W at *
    have HY := hidIt (HY0.out.go HB.out)
    have HFS := hidIt (HF0.out.go HB.out)
    rw [HO.out] at HX
    go_loopw [7] (fun i wr => ∃ k : Nat, k ≤ ts.length ∧ i = .int .i64 k ∧ Hid ((ts.take k).any (valueB (inB l)) = false) ∧ Hid (Below W.heap.size W wr)) (fun i _ => ts.length - (intOf i).toNat)
    case atStart => exact ⟨0, Nat.zero_le _, rfl, rfl, Below.refl _ _⟩
    case round =>
      obtain ⟨k, hk, rfl, hno, hbel⟩ := hrel
      have HBw := hidIt (HB.out.trans (Below.mono hbel.out HB.out.size))
      have kX := blk_kept HX.out hbel.out
      obtain ⟨x0, x1, x2⟩ := cell_of3 kX
      have hlx := lt_of_block kX
      clear kX
      by_cases hlt : k < ts.length
      · obtain ⟨b', off', a', c', rfl, c0, c1, c2, hf⟩ := (HFS.out.go hbel.out).at k hlt
        have HF := hidIt hf
        have HYw := hidIt (HY.out.go hbel.out)
        have HM : Hid (ts[k] ∈ ts) := List.getElem_mem hlt
        have HT := hidIt (take_any (p := valueB (inB l)) ts k hlt)
        have HAT := hidIt (any_true (p := valueB (inB l)) ts k hlt)
        have hlt0 : (k : Int) < (ts.length : Int) := by omega
        have hk0 : (0 : Int) ≤ (k : Int) := by omega
        clear hf
        generalize ts[k] = t at *
        go_wp2_with fail
        refine (IH.out t HM.out _ _ _ _ HF.out HYw.out).mono ?_
        rintro e w5 ⟨rfl, h5⟩
        have HB5 := hidIt (hbel.out.trans (Below.mono h5 hbel.out.size))
        clear h5
        generalize valueB (inB l) t = p at *
        cases p
        · go_wp2_with fail
          go_roundw
          case rel => exact ⟨k + 1, by omega, by go_num, by show _ = _; rw [HT.out, hno.out]; rfl, HB5.out⟩
          case measure => simp [intOf]; omega
        · go_wp2_with fail
          go_ret
          exact ⟨ret_bool (HE.out.trans (HAT.out trivial)).symm, HB.out.trans (Below.mono HB5.out HB.out.size)⟩
      · go_wp2_with fail
        go_ret
        exact ⟨ret_bool (by rw [HE.out, ← hno.out, List.take_of_length_le (by omega)]), HBw.out⟩
  · obtain ⟨t, u, rfl⟩ : ∃ t u, ts = [t, u] := two_of (h7 (.inl rfl))
    have HE : Hid (valueB (inB l) (.node 7 name [t, u]) = (!(valueB (inB l) t) || valueB (inB l) u)) := by show _ = _; simp [valueB, valuesB]
    have hO := HO.out
    subst hO
    obtain ⟨b', off', a', c', rfl, c0, c1, c2, hf⟩ := (HF0.out.go HB.out).at 0 (by simp)
    obtain ⟨b2, off2, a2, c2', e2, d0, d1, d2, hf2⟩ := (HF0.out.go HB.out).at 1 (by simp)
    obtain ⟨rfl, rfl⟩ : b2 = b' ∧ off2 = off' := by
      injection e2 with e2
      injection e2 with e3 e4
      exact ⟨e3.symm, e4.symm⟩
    simp only [List.getElem_cons_zero, List.getElem_cons_succ, Nat.zero_mul, Nat.add_zero, Nat.one_mul] at c0 c1 c2 hf d0 d1 d2 hf2
    simp only [List.length_cons, List.length_nil, Nat.zero_add, Nat.reduceAdd] at *
    have HF := hidIt hf
    have HF2 := hidIt hf2
    have HY := hidIt (HY0.out.go HB.out)
    have HT := hidIt (IH.out t (by simp))
    have HU := hidIt (IH.out u (by simp))
    clear hf hf2 h4 h5 h7 IH HF0 HY0 e2
    go_enter Tryz.func57, Tryz.ntmps57
    go_wp2_with fail
    refine (HT.out _ _ _ _ HF.out HY.out).mono ?_
    rintro e w5 ⟨rfl, h5⟩
    have HB5 := hidIt (HB.out.trans (Below.mono h5 HB.out.size))
    have HF5 := hidIt (hidIt (FormAt.go HF2.out h5)).out
    have HY5 := hidIt (HY.out.go h5)
    have HX5 := hidIt (blk_kept HX.out h5)
    have e0 := (h5.cell (p := ⟨b2, off2 + 3, none⟩) (World.block_lt_of_cell? _ ⟨b2, off2 + 3, none⟩ d0)).trans d0
    have e1 := (h5.cell (p := ⟨b2, off2 + 3 + 1, none⟩) (World.block_lt_of_cell? _ ⟨b2, off2 + 3, none⟩ d0)).trans d1
    have e2 := (h5.cell (p := ⟨b2, off2 + 3 + 2, none⟩) (World.block_lt_of_cell? _ ⟨b2, off2 + 3, none⟩ d0)).trans d2
    clear h5 c0 c1 c2 d0 d1 d2
    obtain ⟨x0, x1, x2⟩ := cell_of3 HX5.out
    have hlx := lt_of_block HX5.out
    generalize valueB (inB l) t = p at *
    cases p
    · go_wp2_with fail
      go_ret
      exact ⟨ret_bool HE.out.symm, HB5.out⟩
    · go_wp2_with fail
      refine (HU.out _ _ _ _ HF5.out HY5.out).mono ?_
      rintro e w6 ⟨rfl, h6⟩
      have HB6 := hidIt (HB5.out.trans (Below.mono h6 HB5.out.size))
      clear h6
      generalize valueB (inB l) u = q at *
      go_wp2_with fail
      go_ret
      exact ⟨ret_bool HE.out.symm, HB6.out⟩
  · obtain ⟨t, u, rfl⟩ : ∃ t u, ts = [t, u] := two_of (h7 (.inr rfl))
    have HE : Hid (valueB (inB l) (.node 8 name [t, u]) = (valueB (inB l) t == valueB (inB l) u)) := by show _ = _; simp [valueB, valuesB]
    have hO := HO.out
    subst hO
    obtain ⟨b', off', a', c', rfl, c0, c1, c2, hf⟩ := (HF0.out.go HB.out).at 0 (by simp)
    obtain ⟨b2, off2, a2, c2', e2, d0, d1, d2, hf2⟩ := (HF0.out.go HB.out).at 1 (by simp)
    obtain ⟨rfl, rfl⟩ : b2 = b' ∧ off2 = off' := by
      injection e2 with e2
      injection e2 with e3 e4
      exact ⟨e3.symm, e4.symm⟩
    simp only [List.getElem_cons_zero, List.getElem_cons_succ, Nat.zero_mul, Nat.add_zero, Nat.one_mul] at c0 c1 c2 hf d0 d1 d2 hf2
    simp only [List.length_cons, List.length_nil, Nat.zero_add, Nat.reduceAdd] at *
    have HF := hidIt hf
    have HF2 := hidIt hf2
    have HY := hidIt (HY0.out.go HB.out)
    have HT := hidIt (IH.out t (by simp))
    have HU := hidIt (IH.out u (by simp))
    clear hf hf2 h4 h5 h7 IH HF0 HY0 e2
    go_enter Tryz.func57, Tryz.ntmps57
    go_wp2_with fail
    generalize hWa : (w.alloc (.cells #[.int .i64 8, .string name, .slice (some ⟨b2, off2, none⟩) 2 cap] 24)) = W at *
    clear hWa
    obtain ⟨-, -, x2⟩ := cell_of3 HX.out
    have hlx := lt_of_block HX.out
    have K0 : ∀ wx, Ext W wx → wx.cell? ⟨b2, off2, none⟩ = some (.int .i64 t.op) := fun wx hw => Ext.cell c0 ⟨wx, hw⟩
    have K1 : ∀ wx, Ext W wx → wx.cell? ⟨b2, off2 + 1, none⟩ = some (.string t.name) := fun wx hw => Ext.cell c1 ⟨wx, hw⟩
    have K2 : ∀ wx, Ext W wx → wx.cell? ⟨b2, off2 + 2, none⟩ = some (.slice a' t.args.length c') := fun wx hw => Ext.cell c2 ⟨wx, hw⟩
    have L0 : ∀ wx, Ext W wx → wx.cell? ⟨b2, off2 + 3, none⟩ = some (.int .i64 u.op) := fun wx hw => Ext.cell d0 ⟨wx, hw⟩
    have L1 : ∀ wx, Ext W wx → wx.cell? ⟨b2, off2 + 3 + 1, none⟩ = some (.string u.name) := fun wx hw => Ext.cell d1 ⟨wx, hw⟩
    have L2 : ∀ wx, Ext W wx → wx.cell? ⟨b2, off2 + 3 + 2, none⟩ = some (.slice a2 u.args.length c2') := fun wx hw => Ext.cell d2 ⟨wx, hw⟩
    have M2 : ∀ wx, Ext W wx → wx.cell? ⟨w.heap.size, 2, none⟩ = some (.slice (some ⟨b2, off2, none⟩) 2 cap) := fun wx hw => Ext.cell x2 ⟨wx, hw⟩
    have hbl := World.block_lt_of_cell? _ ⟨b2, off2, none⟩ c0
    have HT2 : Hid (∀ wx, Ext W wx → Calls Tryz.prog 57 #[.agg #[.int .i64 t.op, .string t.name, .slice a' t.args.length c'], .slice ya l.length yc] wx fun e w'' => ∃ z, e = .returned z ∧ Ext W w'' ∧ Grows wx w'' ∧ isB (valueB (inB l) t) z w'') := fun wx hC => rel_call hC ((HT.out _ _ _ _ (hC.form HF.out) (HY.out.go hC)).mono fun e w'' ⟨he, hb⟩ => ⟨_, he, rfl, hb⟩)
    have HU2 : Hid (∀ wx, Ext W wx → Calls Tryz.prog 57 #[.agg #[.int .i64 u.op, .string u.name, .slice a2 u.args.length c2'], .slice ya l.length yc] wx fun e w'' => ∃ z, e = .returned z ∧ Ext W w'' ∧ Grows wx w'' ∧ isB (valueB (inB l) u) z w'') := fun wx hC => rel_call hC ((HU.out _ _ _ _ (hC.form HF2.out) (HY.out.go hC)).mono fun e w'' ⟨he, hb⟩ => ⟨_, he, rfl, hb⟩)
    generalize valueB (inB l) t = p at *
    generalize valueB (inB l) u = q at *
    clear c0 c1 c2 d0 d1 d2 x2 HT HU HF HF2 HY
    haveI : Nonempty (In (Ext W)) := Ext.nonempty W
    refine wp_region_rel (Ext W) Grows (relTab [(93, isB p), (99, isB q)]) (by kernel_rfl) (by kernel_rfl) (by kernel_rfl) (stable_cons (isB_up _) (stable_cons (isB_up _) (stable_nil _))) (Ext.start W) ?_
    repeat (
      refine' walkR_plain (by kernel_rfl) rfl rfl (fun wx hC hL => ?_) ?_
      rotate_left
      · (have hlw := Nat.lt_of_lt_of_le hlx (Below.size hC)
         have hlg := Nat.lt_of_lt_of_le hbl (Below.size hC)
         simp only [K0 wx hC, K1 wx hC, K2 wx hC, L0 wx hC, L1 wx hC, L2 wx hC, M2 wx hC, hlw, hlg, go_sem]; first | done | (go_simp; exact ⟨rfl, rfl⟩))
      simp only [Act.put, List.setIfInBounds_toArray, List.set_cons_zero, List.set_cons_succ])
    refine walkR_rel (by kernel_rfl) rfl rfl (of_decide_eq_true (by kernel_rfl)) (fun wx hC hL => ?_) (fun v hv => ?_)
    · go_simp
      exact HT2.out wx hC
    obtain ⟨_, _, rfl⟩ := hv
    simp only [Act.put, List.setIfInBounds_toArray, List.set_cons_zero, List.set_cons_succ]
    repeat (
      refine' walkR_plain (by kernel_rfl) rfl rfl (fun wx hC hL => ?_) ?_
      rotate_left
      · (have hlw := Nat.lt_of_lt_of_le hlx (Below.size hC)
         have hlg := Nat.lt_of_lt_of_le hbl (Below.size hC)
         simp only [K0 wx hC, K1 wx hC, K2 wx hC, L0 wx hC, L1 wx hC, L2 wx hC, M2 wx hC, hlw, hlg, go_sem]; first | done | (go_simp; exact ⟨rfl, rfl⟩))
      simp only [Act.put, List.setIfInBounds_toArray, List.set_cons_zero, List.set_cons_succ])
    refine walkR_rel (by kernel_rfl) rfl rfl (of_decide_eq_true (by kernel_rfl)) (fun wx hC hL => ?_) (fun v hv => ?_)
    · go_simp
      exact HU2.out wx hC
    obtain ⟨_, _, rfl⟩ := hv
    simp only [Act.put, List.setIfInBounds_toArray, List.set_cons_zero, List.set_cons_succ]
    repeat (
      refine' walkR_plain (by kernel_rfl) rfl rfl (fun wx hC hL => ?_) ?_
      rotate_left
      · (have hlw := Nat.lt_of_lt_of_le hlx (Below.size hC)
         have hlg := Nat.lt_of_lt_of_le hbl (Below.size hC)
         simp only [K0 wx hC, K1 wx hC, K2 wx hC, L0 wx hC, L1 wx hC, L2 wx hC, M2 wx hC, hlw, hlg, go_sem]; first | done | (go_simp; exact ⟨rfl, rfl⟩))
      simp only [Act.put, List.setIfInBounds_toArray, List.set_cons_zero, List.set_cons_succ])
    refine fun w10 hC10 _ => ?_
    have HB10 := hidIt (HB.out.trans (Below.mono hC10 HB.out.size))
    clear hC10 K0 K1 K2 L0 L1 L2 M2
    go_wp2_with fail
    go_ret
    exact ⟨ret_bool HE.out.symm, HB10.out⟩

set_option maxRecDepth 100000 in
set_option maxHeartbeats 1000000 in
/-- The reference's Eval. -/
theorem qeval_any (t : Tree) (v : Value) (ya : Option Addr) (yc : Nat) (l : List ByteArray) (hl : l.length ≤ 1000000) (w : World) (h : FormAt w none v t) (hy : StrsIn w (fun _ => True) ya l) :
    Calls Tryz.prog 15 #[v, .slice ya l.length yc] w fun e w' => e = .returned (.bool (evalB t l)) ∧ Below w.heap.size w w' := by
  obtain ⟨a, cap, b, off, rfl, hop, hname, hlen, hcap, -, -⟩ := h.form
  have hb0 : Below w.heap.size w (w.alloc (.cells #[.int .i64 t.op, .string t.name, .slice a t.args.length cap] 24)) := Grows.alloc _ _
  have HF := hidIt (FormAt.go h hb0)
  have HY := hidIt (hy.go hb0)
  have HX := hidIt (heap_alloc_new w (.cells #[.int .i64 t.op, .string t.name, .slice a t.args.length cap] 24))
  have HB := hidIt hb0
  have HE : Hid (evalB t l = (wellF t && valueB (inB l) t)) := rfl
  have HW := hidIt (wellF_split t)
  have HV := hidIt (qvalue_any l hl t)
  clear h hy hb0 hop hname hlen hcap
  go_enter Tryz.func15, Tryz.ntmps15
  go_wp2_with fail
  generalize hWa : (w.alloc (.cells #[.int .i64 t.op, .string t.name, .slice a t.args.length cap] 24)) = W at *
  clear hWa
  refine (qkinds_any t _ _ HF.out).mono ?_
  rintro e w1 ⟨rfl, h1⟩
  have HF1 := hidIt (HF.out.go h1)
  have HY1 := hidIt (HY.out.go h1)
  have HX1 := hidIt (blk_kept HX.out h1)
  have HB1 := hidIt (HB.out.trans (Below.mono h1 HB.out.size))
  clear h1 HF HY HX HB
  obtain ⟨x0, x1, x2⟩ := cell_of3 HX1.out
  have hlx := lt_of_block HX1.out
  generalize t.all kindB = kk at *
  cases kk
  · go_wp2_with fail
    go_ret
    exact ⟨ret_bool (by rw [HE.out, HW.out]; simp), HB1.out⟩
  · go_wp2_with fail
    refine (qnames_any t _ _ HF1.out).mono ?_
    rintro e w2 ⟨rfl, h2⟩
    have HF2 := hidIt (HF1.out.go h2)
    have HY2 := hidIt (HY1.out.go h2)
    have HX2 := hidIt (blk_kept HX1.out h2)
    have HB2 := hidIt (HB1.out.trans (Below.mono h2 HB1.out.size))
    clear h2 HF1 HY1 HX1 HB1 x0 x1 x2 hlx
    obtain ⟨x0, x1, x2⟩ := cell_of3 HX2.out
    have hlx := lt_of_block HX2.out
    generalize t.all nameB = kn at *
    cases kn
    · go_wp2_with fail
      go_ret
      exact ⟨ret_bool (by rw [HE.out, HW.out]; simp), HB2.out⟩
    · go_wp2_with fail
      refine (HV.out trivial _ _ _ _ HF2.out HY2.out).mono ?_
      rintro e w3 ⟨rfl, h3⟩
      have HB3 := hidIt (HB2.out.trans (Below.mono h3 HB2.out.size))
      clear h3
      generalize valueB (inB l) t = q at *
      go_wp2_with fail
      go_ret
      exact ⟨ret_bool (by rw [HE.out, HW.out]; simp), HB3.out⟩
end Go.Proofs.YtilkpjcbmllgmaaGreatDoor

namespace Go.Proofs.YtilkpjcbmllgmaaGreatDoor
set_option linter.unusedVariables false
set_option linter.unusedSimpArgs false
open Go Go.RowKit

/-- The names of the first k atoms that are true in the world w. -/
def yesU (voc : List ByteArray) (w : Nat) : Nat → List ByteArray
  | 0 => []
  | k + 1 => if w.testBit k then yesU voc w k ++ [voc.getD k ⟨#[]⟩] else yesU voc w k
theorem yesU_len (voc : List ByteArray) (w : Nat) : ∀ k, (yesU voc w k).length ≤ k
  | 0 => Nat.le_refl _
  | k + 1 => by
    have := yesU_len voc w k
    unfold yesU
    split
    · simp; omega
    · omega
theorem yesU_mem (voc : List ByteArray) (w : Nat) (s : ByteArray) : ∀ k, s ∈ yesU voc w k ↔ ∃ i, i < k ∧ w.testBit i = true ∧ voc.getD i ⟨#[]⟩ = s
  | 0 => by simp [yesU]
  | k + 1 => by
    have ih := yesU_mem voc w s k
    unfold yesU
    split
    · rename_i h
      rw [List.mem_append, ih, List.mem_singleton]
      constructor
      · rintro (⟨i, h1, h2, h3⟩ | h1)
        · exact ⟨i, by omega, h2, h3⟩
        · exact ⟨k, by omega, h, h1.symm⟩
      · rintro ⟨i, h1, h2, h3⟩
        by_cases e : i = k
        · subst e
          exact .inr h3.symm
        · exact .inl ⟨i, by omega, h2, h3⟩
    · rename_i h
      rw [ih]
      constructor
      · rintro ⟨i, h1, h2, h3⟩
        exact ⟨i, by omega, h2, h3⟩
      · rintro ⟨i, h1, h2, h3⟩
        by_cases e : i = k
        · subst e
          exact absurd h2 h
        · exact ⟨i, by omega, h2, h3⟩

theorem yes_atom {voc : List ByteArray} (hnd : voc.Nodup) (w : Nat) {s : ByteArray} (hs : inB voc s = true) : inB (yesU voc w voc.length) s = atomAt voc w s := by
  have hex : ∃ x ∈ voc, (x.data.toList == s.data.toList) = true := by
    unfold inB at hs
    exact List.any_eq_true.1 hs
  have hlt : idxB voc s < voc.length := List.findIdx_lt_length_of_exists hex
  have hat : voc[idxB voc s] = s := by
    have h1 := List.findIdx_getElem (w := hlt)
    exact bytes_eq (eq_of_beq (a := voc[idxB voc s].data.toList) h1)
  unfold atomAt
  rw [Bool.eq_iff_iff, inB_mem, yesU_mem]
  constructor
  · rintro ⟨i, h1, h2, h3⟩
    rw [List.getD_eq_getElem?_getD, List.getElem?_eq_getElem h1, Option.getD_some] at h3
    have : i = idxB voc s := by
      rcases Nat.lt_trichotomy i (idxB voc s) with h | h | h
      · exact absurd (by rw [h3, hat]) (List.pairwise_iff_getElem.1 hnd i (idxB voc s) h1 hlt h)
      · exact h
      · exact absurd (by rw [h3, hat]) (List.pairwise_iff_getElem.1 hnd (idxB voc s) i hlt h1 h)
    rw [← this]
    exact h2
  · intro h
    exact ⟨idxB voc s, hlt, h, by rw [List.getD_eq_getElem?_getD, List.getElem?_eq_getElem hlt, Option.getD_some]; exact hat⟩

theorem mod_bits {voc : List ByteArray} {t : Tree} (hv : vocB voc = true) (he : valE t = 0) (ho : overB voc t = true) : wsetN (fun j => evalB t (yesU voc j voc.length)) (2 ^ voc.length) = modelsV voc t &&& allS voc.length := by
  obtain ⟨-, -, hkk, hnm⟩ := valE_zero he
  have hw : wellF t = true := by rw [wellF_split, hkk, hnm]; rfl
  have h6 : voc.length ≤ 6 := by
    unfold vocB at hv
    rw [Bool.and_eq_true, decide_eq_true_eq] at hv
    exact hv.1
  refine set_ext fun j hj => ?_
  rw [wsetN_bit, BitVec.getLsbD_and, modelsV_bit _ _ j hj, allS, wset_bit _ j hj]
  have e : evalB t (yesU voc j voc.length) = valueB (atomAt voc j) t := by
    unfold evalB
    rw [hw, Bool.true_and]
    exact value_own _ _ t hkk fun s hs => yes_atom (vocB_nodup hv) j (over_mem ho s hs)
  rw [e, decide_eq_true hj, Bool.and_true, Bool.and_comm]

theorem tstY : ∀ w : Fin 64, ∀ i : Fin 6, bits .and .i64 ((w.val : Int) / 2 ^ i.val) 1 = if w.val.testBit i.val then 1 else 0 := by decide +kernel

set_option maxRecDepth 100000 in
set_option maxHeartbeats 2000000 in
theorem r3yes_any (voc : List ByteArray) (va : Option Addr) (vc : Nat) (hn : voc.length ≤ 6) (j : Nat) (hj : j < 64) (w : World) (h : StrsIn w (fun _ => True) va voc) :
    Calls Tryz.prog 83 #[.slice va voc.length vc, .int .i64 (j : Int)] w fun e w' => ∃ v, e = .returned v ∧ OwnS w' w.heap.size v (yesU voc j voc.length) ∧ Below w.heap.size w w' := by
  have H := hidIt h
  clear h
  go_enter Tryz.func83, Tryz.ntmps83
  go_wp2_with fail
  go_loopw [5, 6] (fun v i wr => ∃ k : Nat, k ≤ voc.length ∧ i = .int .i64 k ∧ Hid (OwnS wr w.heap.size v (yesU voc j k)) ∧ Hid (Below w.heap.size w wr)) (fun _ i _ => voc.length - (intOf i).toNat)
  case atStart => exact ⟨0, Nat.zero_le _, rfl, OwnS.nil _ _, Below.refl _ _⟩
  case round =>
    obtain ⟨k, hk, rfl, hown, hbel⟩ := hrel
    by_cases hlt : k < voc.length
    · obtain ⟨b, off, rfl, c0, hsz⟩ := (H.out.go hbel.out).at k hlt
      have hlt' : (k : Int) < (voc.length : Int) := by omega
      have hk0 : (0 : Int) ≤ (k : Int) := by omega
      have hw : IntKind.u64.wrap (k : Int) = (k : Int) := by rw [IntKind.wrap_u64]; omega
      have ht := tstY ⟨j, hj⟩ ⟨k, by omega⟩
      have HL := hidIt (yesU_len voc j k)
      have HS : Hid (yesU voc j (k + 1) = if j.testBit k then yesU voc j k ++ [voc[k]] else yesU voc j k) := by
        show _ = _
        rw [yesU, List.getD_eq_getElem?_getD, List.getElem?_eq_getElem hlt, Option.getD_some]
      simp only at ht
      generalize voc[k] = x at *
      generalize yesU voc j k = l at *
      cases hb : j.testBit k
      · rw [hb] at ht HS
        have HE : Hid (yesU voc j (k + 1) = l) := HS.out
        have ht' : bits .and .i64 ((j : Int) / 2 ^ k) 1 = 0 := ht
        clear HS ht
        go_wp2_with fail
        go_roundw
        case rel => exact ⟨k + 1, by omega, by go_num, by rw [HE.out]; exact hown.out, hbel⟩
        case measure => simp [intOf]; omega
      · rw [hb] at ht HS
        have HE : Hid (yesU voc j (k + 1) = l ++ [x]) := HS.out
        have ht' : bits .and .i64 ((j : Int) / 2 ^ k) 1 = 1 := ht
        have HO3 := hidIt (hown.out.alloc (.cells #[.string x] 9))
        have HNW := hidIt (heap_alloc_new wr (.cells #[.string x] 9))
        have HBW : Hid (w.heap.size ≤ (wr.alloc (.cells #[.string x] 9)).heap.size) := by have := hbel.out.size; show _ ≤ _; simp; omega
        have hll : l.length ≤ 1000000 := by have := HL.out; omega
        have HOB := hidIt hown.out.block
        clear HS ht
        go_wp2_with (at_builtin; refine wpList_append_str rfl _ _ rfl w.heap.size _ l rfl HO3.out _ 1 rfl HNW.out hsz hll HBW.out ?_)
        intro v' w3 ho3 hg3
        have HO4 := hidIt ho3
        have HB3 : Hid (Below w.heap.size w w3) := below_over2 hbel.out (Grows.alloc wr _) hg3 (fun g e => (HOB.out g e).1)
        clear ho3 hg3
        go_wp2_with fail
        go_roundw
        case rel => exact ⟨k + 1, by omega, by go_num, by rw [HE.out]; exact HO4.out, HB3⟩
        case measure => simp [intOf]; omega
    · obtain rfl : k = voc.length := by omega
      go_wp2_with fail
      go_ret
      exact ⟨_, rfl, hown.out, hbel.out⟩
end Go.Proofs.YtilkpjcbmllgmaaGreatDoor

namespace Go.Proofs.YtilkpjcbmllgmaaGreatDoor
set_option linter.unusedVariables false
set_option linter.unusedSimpArgs false
open Go.RowKit

set_option maxRecDepth 100000 in
set_option maxHeartbeats 1000000 in
theorem qvalidate_any (t : Tree) (v : Value) (w : World) (h : FormAt w none v t) (hn : t.nodes ≤ 1000000000) :
    Calls Tryz.prog 82 #[v] w fun e w' => e = .returned (.int .i64 (valE t)) ∧ Below w.heap.size w w' := by
  obtain ⟨a, cap, b, off, rfl, hop, hname, hlen, hcap, -, -⟩ := h.form
  have H := hidIt (h.go ((Below.refl _ _).alloc (Nat.le_refl _) (.cells #[.int .i64 t.op, .string t.name, .slice a t.args.length cap] 24)))
  have HN := hidIt hn
  have HD := hidIt (depth_lt_nodes t)
  clear h hn
  by_cases g1 : 600 < t.nodes
  · have HV : Hid (valE t = 2) := by show _ = _; simp [valE, fitsAt]; omega
    have g1' : (600 : Int) < (t.nodes : Int) := by omega
    clear g1
    go_enter Tryz.func82, Tryz.ntmps82
    go_wp2_with fail
    refine (qsize_any t _ _ H.out HN.out).mono ?_
    rintro e w' ⟨rfl, hb⟩
    have HB := hidIt (below_box hb)
    clear hb
    go_wp2_with fail
    go_ret
    exact ⟨ret_int HV.out.symm, HB.out⟩
  have g1' : (t.nodes : Int) ≤ 600 := by omega
  by_cases g2 : 20 < t.depth
  · have HV : Hid (valE t = 2) := by show _ = _; simp [valE, fitsAt]; omega
    have g2' : (20 : Int) < (t.depth : Int) := by omega
    clear g1 g2
    go_enter Tryz.func82, Tryz.ntmps82
    go_wp2_with fail
    refine (qsize_any t _ _ H.out HN.out).mono ?_
    rintro e w' ⟨rfl, hb⟩
    have HB := hidIt (below_box hb)
    obtain ⟨p0, p1, p2⟩ := cell_of3 (laid_box hb)
    have hsz : w.heap.size < w'.heap.size := lt_of_block (laid_box hb)
    have HF := hidIt (H.out.go hb)
    clear hb
    go_wp2_with fail
    refine (qdepth_any t _ _ HF.out HN.out).mono ?_
    rintro e w2 ⟨rfl, hb2⟩
    have HB2 := hidIt (HB.out.trans (hb2.mono HB.out.size))
    clear hb2
    go_wp2_with fail
    go_ret
    exact ⟨ret_int HV.out.symm, HB2.out⟩
  have g2' : (t.depth : Int) ≤ 20 := by omega
  have HV : Hid (valE t = if t.all kindB then (if t.all nameB then 0 else 3) else 4) := by
    show _ = _
    have : fitsAt 0 0 t = true := by simp [fitsAt]; omega
    simp [valE, this]
  clear g1 g2
  go_enter Tryz.func82, Tryz.ntmps82
  go_wp2_with fail
  refine (qsize_any t _ _ H.out HN.out).mono ?_
  rintro e w' ⟨rfl, hb⟩
  have HB := hidIt (below_box hb)
  have K1 := laid_box hb
  obtain ⟨p0, p1, p2⟩ := cell_of3 K1
  have hsz : w.heap.size < w'.heap.size := lt_of_block K1
  have HF := hidIt (H.out.go hb)
  have HK1 := hidIt K1
  clear hb K1
  go_wp2_with fail
  refine (qdepth_any t _ _ HF.out HN.out).mono ?_
  rintro e w2 ⟨rfl, hb2⟩
  have HB2 := hidIt (HB.out.trans (hb2.mono HB.out.size))
  have HF2 := hidIt (HF.out.go hb2)
  have K2 := blk_kept HK1.out hb2
  clear p0 p1 p2 hsz
  obtain ⟨p0, p1, p2⟩ := cell_of3 K2
  have hsz : w.heap.size < w2.heap.size := lt_of_block K2
  have HK2 := hidIt K2
  clear hb2 K2
  go_wp2_with fail
  refine (qkinds_any t _ _ HF2.out).mono ?_
  rintro e w3 ⟨rfl, hb3⟩
  have HB3 := hidIt (HB2.out.trans (hb3.mono HB2.out.size))
  have HF3 := hidIt (HF2.out.go hb3)
  have K3 := blk_kept HK2.out hb3
  clear p0 p1 p2 hsz
  obtain ⟨p0, p1, p2⟩ := cell_of3 K3
  have hsz : w.heap.size < w3.heap.size := lt_of_block K3
  clear hb3 K3
  cases h2 : t.all kindB
  · have H2 := hidIt h2
    clear h2
    go_wp2_with fail
    go_ret
    exact ⟨ret_int (by rw [HV.out, H2.out]; rfl), HB3.out⟩
  have H2 := hidIt h2
  clear h2
  go_wp2_with fail
  refine (qnames_any t _ _ HF3.out).mono ?_
  rintro e w4 ⟨rfl, hb4⟩
  have HB4 := hidIt (HB3.out.trans (hb4.mono HB3.out.size))
  clear hb4
  cases h3 : t.all nameB
  · have H3 := hidIt h3
    clear h3
    go_wp2_with fail
    go_ret
    exact ⟨ret_int (by rw [HV.out, H2.out, H3.out]; rfl), HB4.out⟩
  · have H3 := hidIt h3
    clear h3
    go_wp2_with fail
    go_ret
    exact ⟨ret_int (by rw [HV.out, H2.out, H3.out]; rfl), HB4.out⟩
end Go.Proofs.YtilkpjcbmllgmaaGreatDoor

namespace Go.Proofs.YtilkpjcbmllgmaaGreatDoor
set_option linter.unusedVariables false
set_option linter.unusedSimpArgs false
open Go Go.RowKit

/-- These strings, wherever they lie. -/
def isStrs (l : List ByteArray) : Value → World → Prop := fun v w => ∃ (a : Option Addr) (c : Nat), v = .slice a l.length c ∧ StrsIn w (fun _ => True) a l
theorem isStrs_up (l : List ByteArray) : GoesUp (isStrs l) := fun _ _ _ hg ⟨a, c, h1, h2⟩ => ⟨a, c, h1, h2.go hg⟩
theorem OwnS.isStrs {w : World} {B : Nat} {v : Value} {l : List ByteArray} (h : OwnS w B v l) : isStrs l v w := by
  obtain ⟨a, c, h1, -, -, h2⟩ := h.form
  exact ⟨a, c, h1, h2.mono fun _ _ _ => trivial⟩

set_option maxRecDepth 100000 in
set_option maxHeartbeats 4000000 in
theorem r3models_any (voc : List ByteArray) (va : Option Addr) (vc : Nat) (hvn : voc.length ≤ 1000000) (hvc : voc.length ≤ vc) (hvm : vc ≤ maxLen) (t : Tree) (ht : t.nodes ≤ 1000000) (v : Value) (w : World) (h : FormAt w none v t) (hs : StrsIn w (fun _ => True) va voc) :
    Calls Tryz.prog 40 #[.slice va voc.length vc, v] w fun e w' => e = .returned (.tuple #[bv (modS voc t), .int .i64 (modE voc t)]) ∧ Below w.heap.size w w' := by
  obtain ⟨a, cap, b, off, rfl, hop, hname, hlen, hcap, -, -⟩ := h.form
  have HB0 : Hid (Below w.heap.size w (w.alloc (.cells #[.int .i64 t.op, .string t.name, .slice a t.args.length cap] 24))) := (Below.refl _ _).alloc (Nat.le_refl _) _
  have HX : Hid ((w.alloc (.cells #[.int .i64 t.op, .string t.name, .slice a t.args.length cap] 24)).heap[w.heap.size]? = some (.cells #[.int .i64 t.op, .string t.name, .slice a t.args.length cap] 24 (0, 0))) := heap_alloc_new w _
  have HF := hidIt (h.go HB0.out)
  have HS := hidIt (hs.go HB0.out)
  have HNN := hidIt ht
  unfold maxLen at hcap hvm
  clear h hs hop hname ht
  by_cases hvb : vocB voc = true
  case neg =>
    have hvb' : vocB voc = false := by simpa using hvb
    have HE : Hid (modE voc t = 1) := by show _ = _; unfold modE; rw [if_neg hvb]
    have HZ : Hid (modS voc t = 0#64) := modS_err (by rw [HE.out]; decide)
    have HVB := hidIt hvb'
    clear hvb hvb'
    go_enter Tryz.func40, Tryz.ntmps40
    go_wp2_with fail
    refine (r3valid_any voc va vc hvn _ HS.out).mono ?_
    rintro e w1 ⟨rfl, hb1⟩
    rw [HVB.out]
    have HB1 := hidIt (HB0.out.trans (hb1.mono HB0.out.size))
    clear hb1
    go_wp2_with fail
    go_ret2
    exact ⟨ret_pair (by rw [HZ.out]; rfl) HE.out.symm, HB1.out⟩
  case pos =>
  have hv6 : voc.length ≤ 6 := by
    unfold vocB at hvb
    rw [Bool.and_eq_true, decide_eq_true_eq] at hvb
    exact hvb.1
  by_cases hve : valE t = 0
  case neg =>
    have HE : Hid (modE voc t = valE t) := by show _ = _; unfold modE; rw [if_pos hvb, if_neg hve]
    have HZ : Hid (modS voc t = 0#64) := modS_err (by rw [HE.out]; exact hve)
    have hz : (valE t == 0) = false := by simp [hve]
    have hz2 : (valE t != 0) = true := by simp [hve]
    have HVB := hidIt hvb
    clear hvb hve
    go_enter Tryz.func40, Tryz.ntmps40
    go_wp2_with fail
    refine (r3valid_any voc va vc hvn _ HS.out).mono ?_
    rintro e w1 ⟨rfl, hb1⟩
    rw [HVB.out]
    have HB1 := hidIt (HB0.out.trans (hb1.mono HB0.out.size))
    have HX1 := hidIt (blk_kept HX.out hb1)
    have HF1 := hidIt (HF.out.go hb1)
    obtain ⟨p0, p1, p2⟩ := cell_of3 HX1.out
    have hpl := lt_of_block HX1.out
    clear hb1
    go_wp2_with fail
    refine (qvalidate_any t _ _ HF1.out (by have := HNN.out; omega)).mono ?_
    rintro e w2 ⟨rfl, hb2⟩
    have HB2 := hidIt (HB1.out.trans (hb2.mono HB1.out.size))
    clear hb2 p0 p1 p2 hpl
    generalize valE t = ve at *
    go_wp2_with fail
    go_ret2
    exact ⟨ret_pair (by rw [HZ.out]; rfl) HE.out.symm, HB2.out⟩
  case pos =>
  have HVB := hidIt hvb
  have HVE := hidIt hve
  have HBITS : Hid (overB voc t = true → wsetN (fun j => evalB t (yesU voc j voc.length)) (2 ^ voc.length) = modelsV voc t &&& allS voc.length) := fun h => mod_bits hvb hve h
  have HAL : Hid ((atomsT t).length ≤ 600) := by
    obtain ⟨hnn, -, -, -⟩ := valE_zero hve
    have h1 := ascOf_len (atomKs (keysT t))
    have h2 := atomKs_len (keysT t)
    rw [keysT_len] at h2
    show (ascOf (atomKs (keysT t))).length ≤ 600
    omega
  clear hvb hve
  go_enter Tryz.func40, Tryz.ntmps40
  go_wp2_with fail
  refine (r3valid_any voc va vc hvn _ HS.out).mono ?_
  rintro e w1 ⟨rfl, hb1⟩
  rw [HVB.out]
  have HB1 := hidIt (HB0.out.trans (hb1.mono HB0.out.size))
  have HX1 := hidIt (blk_kept HX.out hb1)
  have HF1 := hidIt (HF.out.go hb1)
  have HS1 := hidIt (HS.out.go hb1)
  obtain ⟨p0, p1, p2⟩ := cell_of3 HX1.out
  have hpl := lt_of_block HX1.out
  clear hb1 HX HF HS HB0
  go_wp2_with fail
  refine (qvalidate_any t _ _ HF1.out (by have := HNN.out; omega)).mono ?_
  rintro e w2 ⟨rfl, hb2⟩
  rw [HVE.out]
  have HB2 := hidIt (HB1.out.trans (hb2.mono HB1.out.size))
  have HX2 := hidIt (blk_kept HX1.out hb2)
  have HF2 := hidIt (HF1.out.go hb2)
  have HS2 := hidIt (HS1.out.go hb2)
  clear hb2 p0 p1 p2 hpl HX1 HF1 HS1 HB1
  obtain ⟨p0, p1, p2⟩ := cell_of3 HX2.out
  have hpl := lt_of_block HX2.out
  go_wp2_with fail
  refine (qatoms_any t _ _ HNN.out HF2.out).mono ?_
  rintro e w3 ⟨u, rfl, hsv, hb3⟩
  obtain ⟨aa, ac, rfl, hal, hac, -, has⟩ := hsv
  have HB3 := hidIt (HB2.out.trans (hb3.mono HB2.out.size))
  have HX3 := hidIt (blk_kept HX2.out hb3)
  have HF3 := hidIt (HF2.out.go hb3)
  have HS3 := hidIt (HS2.out.go hb3)
  have HA3 := hidIt has
  clear hb3 p0 p1 p2 hpl HX2 HF2 HS2 HB2 has
  obtain ⟨p0, p1, p2⟩ := cell_of3 HX3.out
  have hpl := lt_of_block HX3.out
  have hal6 := HAL.out
  unfold maxLen at hac
  have HOB : Hid (overB voc t = (atomsT t).all fun s => inB voc s) := rfl
  generalize atomsT t = al at *
  go_wp2_with fail
  go_loop [8] (fun i => ∃ k : Nat, k ≤ al.length ∧ i = .int .i64 k ∧ Hid (overUpto voc al k = true)) (fun i => al.length - (intOf i).toNat)
  case atStart => exact ⟨0, Nat.zero_le _, rfl, by show _ = _; simp [overUpto]⟩
  case round =>
    obtain ⟨k, hk, rfl, hok⟩ := hrel
    by_cases hlt : k < al.length
    · obtain ⟨b2, o2, rfl, c0, hsz⟩ := HA3.out.at k hlt
      have HST := hidIt (overUpto_succ voc al k hlt)
      have HFL := hidIt (overUpto_false voc al (k + 1))
      have hlt' : (k : Int) < (al.length : Int) := by omega
      have hk0 : (0 : Int) ≤ (k : Int) := by omega
      generalize al[k] = s at *
      have hix := indexI_nonneg voc s
      cases hin : inB voc s
      · rw [hin] at hix
        have hneg : indexI voc s < 0 := by simpa using hix
        have HE : Hid (modE voc t = 6) := by
          show _ = _
          unfold modE
          rw [if_pos HVB.out, if_pos HVE.out, HOB.out, HFL.out (by rw [HST.out, hin, Bool.and_false])]
          rfl
        have HZ : Hid (modS voc t = 0#64) := modS_err (by rw [HE.out]; decide)
        have HIX := hidIt (fun W h => r3index_any voc s va vc hvn W (S := fun _ => True) h)
        clear hin HST HFL hix
        generalize indexI voc s = ix at *
        go_wp2_with fail
        refine (HIX.out _ HS3.out).mono ?_
        rintro e w' ⟨rfl, rfl⟩
        go_wp2_with fail
        go_ret2
        exact ⟨ret_pair (by rw [HZ.out]; rfl) HE.out.symm, HB3.out⟩
      · rw [hin] at hix
        have hneg : ¬ indexI voc s < 0 := by simpa using hix
        have HT : Hid (overUpto voc al (k + 1) = true) := by show _ = _; rw [HST.out, hok.out, hin]; rfl
        have HIX := hidIt (fun W h => r3index_any voc s va vc hvn W (S := fun _ => True) h)
        clear hin HST HFL hix
        generalize indexI voc s = ix at *
        go_wp2_with fail
        refine (HIX.out _ HS3.out).mono ?_
        rintro e w' ⟨rfl, rfl⟩
        go_wp2_with fail
        go_round
        case rel => exact ⟨k + 1, by omega, by go_num, HT⟩
        case measure => simp [intOf]; omega
    · obtain rfl : k = al.length := by omega
      have hov : overB voc t = true := by
        rw [HOB.out]
        have := hok.out
        unfold overUpto at this
        rw [List.take_length] at this
        exact this
      have HE : Hid (modE voc t = 0) := modE_ok HVB.out HVE.out hov
      have HZ : Hid (modS voc t = wsetN (fun j => evalB t (yesU voc j voc.length)) (2 ^ voc.length)) := by show _ = _; rw [modS_ok HE.out, HBITS.out hov]
      have hp : 2 ^ voc.length ≤ 64 := by
        have := Nat.pow_le_pow_right (n := 2) (by omega) hv6
        omega
      have HCT := hidIt (fun w => r3count_any voc.length va vc hv6 w)
      have HEV := hidIt (fun (l : List ByteArray) (hl : l.length ≤ 1000000) (ya : Option Addr) (yc : Nat) (W : World) h h' => qeval_any t (.agg #[.int .i64 t.op, .string t.name, .slice a t.args.length cap]) ya yc l hl W h h')
      have HYS := hidIt (fun (j : Nat) (hj : j < 64) (W : World) h => r3yes_any voc va vc hv6 j hj W h)
      have HYL := hidIt (fun j => yesU_len voc j voc.length)
      obtain ⟨N, hN⟩ : ∃ N, N = 2 ^ voc.length := ⟨_, rfl⟩
      rw [← hN] at HCT HZ hp
      clear hN hov hok HBITS
      go_wp2_with fail
      go_loopw [9, 10] (fun s i wr => ∃ k : Nat, k ≤ N ∧ i = .int .i64 k ∧ s = bv (wsetN (fun j => evalB t (yesU voc j voc.length)) k) ∧ Hid (Below w3.heap.size w3 wr)) (fun _ i _ => N - (intOf i).toNat)
      case atStart => exact ⟨0, Nat.zero_le _, rfl, rfl, Below.refl _ _⟩
      case round =>
        obtain ⟨k, hk, rfl, rfl, hbel⟩ := hrel
        by_cases hlt : k < N
        · have hlt' : (k : Int) < (N : Int) := by omega
          have hw : IntKind.u64.wrap (k : Int) = (k : Int) := by rw [IntKind.wrap_u64]; omega
          have hk0 : (0 : Int) ≤ (k : Int) := by omega
          have HST := hidIt (wsetN_succ (fun j => evalB t (yesU voc j voc.length)) k)
          have HY := hidIt (HYS.out k (by omega))
          have HEK := hidIt (HEV.out (yesU voc k voc.length) (by have := HYL.out k; omega))
          generalize wsetN (fun j => evalB t (yesU voc j voc.length)) k = T at *
          go_wp2_with fail
          refine (HCT.out _).mono ?_
          rintro e w' ⟨rfl, rfl⟩
          have kX := blk_kept HX3.out hbel.out
          obtain ⟨f0, f1, f2⟩ := cell_of3 kX
          have fl := lt_of_block kX
          have K0 : ∀ wx, Ext w' wx → wx.cell? ⟨w.heap.size, 0, none⟩ = some (.int .i64 t.op) := fun wx hw => Ext.cell f0 ⟨wx, hw⟩
          have K1 : ∀ wx, Ext w' wx → wx.cell? ⟨w.heap.size, 1, none⟩ = some (.string t.name) := fun wx hw => Ext.cell f1 ⟨wx, hw⟩
          have K2 : ∀ wx, Ext w' wx → wx.cell? ⟨w.heap.size, 2, none⟩ = some (.slice a t.args.length cap) := fun wx hw => Ext.cell f2 ⟨wx, hw⟩
          have HSw := hidIt (HS3.out.go hbel.out)
          have HFw := hidIt (HF3.out.go hbel.out)
          clear f0 f1 f2 kX p0 p1 p2 hpl
          go_wp2_with fail
          haveI : Nonempty (In (Ext w')) := Ext.nonempty w'
          generalize yesU voc k voc.length = ys at *
          obtain ⟨eb, heb⟩ : ∃ eb, evalB t ys = eb := ⟨_, rfl⟩
          refine wp_region_rel (Ext w') Grows (relTab [(43, isStrs ys), (44, isB eb)]) (by kernel_rfl) (by kernel_rfl) (by kernel_rfl) (stable_cons (isStrs_up _) (stable_cons (isB_up _) (stable_nil _))) (Ext.start w') ?_
          repeat (
            refine' walkR_plain (by kernel_rfl) rfl rfl (fun wx hC hL => ?_) ?_
            rotate_left
            · (have hlw := Nat.lt_of_lt_of_le fl (Below.size hC)
               simp only [K0 wx hC, K1 wx hC, K2 wx hC, hlw, go_sem]; first | done | (go_simp; exact ⟨rfl, rfl⟩))
            simp only [Act.put, List.setIfInBounds_toArray, List.set_cons_zero, List.set_cons_succ])
          refine walkR_rel (by kernel_rfl) rfl rfl (of_decide_eq_true (by kernel_rfl)) (fun wx hC hL => ?_) (fun v hv => ?_)
          · go_simp
            exact rel_call hC ((HY.out wx (HSw.out.go hC)).mono fun e w'' ⟨v, he, ho, hb⟩ => ⟨v, he, ho.isStrs, hb⟩)
          obtain ⟨_, _, ya, yc, rfl, -⟩ := hv
          simp only [Act.put, List.setIfInBounds_toArray, List.set_cons_zero, List.set_cons_succ]
          refine walkR_rel (by kernel_rfl) rfl rfl (of_decide_eq_true (by kernel_rfl)) (fun wx hC hL => ?_) (fun v hv => ?_)
          · obtain ⟨ya', yc', e', hy'⟩ := hL.get 43 (by simp [more]) (by kernel_rfl) rfl rfl
            injection e' with e1 e2 e3
            subst e1 e3
            go_simp
            exact rel_call hC ((HEK.out ya yc wx (hC.form HFw.out) hy').mono fun e w'' ⟨he, hb⟩ => ⟨_, he, by rw [heb]; rfl, hb⟩)
          obtain ⟨_, _, rfl⟩ := hv
          simp only [Act.put, List.setIfInBounds_toArray, List.set_cons_zero, List.set_cons_succ]
          refine fun w5 hC5 _ => ?_
          have HB5 := hidIt (hbel.out.trans (Below.mono hC5 hbel.out.size))
          clear hC5 K0 K1 K2 fl hbel
          rw [heb] at HST
          cases eb
          · go_wp2_with fail
            go_roundw
            case rel => exact ⟨k + 1, by omega, by go_num, by rw [HST.out]; rfl, HB5⟩
            case measure => simp [intOf]; omega
          · go_wp2_with fail
            go_roundw
            case rel => exact ⟨k + 1, by omega, by go_num, by rw [HST.out, if_pos rfl, bv, or_one T k (by omega)], HB5⟩
            case measure => simp [intOf]; omega
        · obtain rfl : k = N := by omega
          go_wp2_with fail
          refine (HCT.out _).mono ?_
          rintro e w' ⟨rfl, rfl⟩
          go_wp2_with fail
          go_ret2
          exact ⟨ret_pair (by rw [HZ.out]) HE.out.symm, HB3.out.trans (Below.mono hbel.out HB3.out.size)⟩

set_option maxRecDepth 100000 in
set_option maxHeartbeats 1000000 in
theorem r3entails_any (voc : List ByteArray) (va : Option Addr) (vc : Nat) (hvn : voc.length ≤ 1000000) (hvc : voc.length ≤ vc) (hvm : vc ≤ maxLen) (f g : Tree) (hfn : f.nodes ≤ 1000000) (hgn : g.nodes ≤ 1000000) (vf vg : Value) (w : World) (hf : FormAt w none vf f) (hg : FormAt w none vg g) (hs : StrsIn w (fun _ => True) va voc) :
    Calls Tryz.prog 42 #[.slice va voc.length vc, vf, vg] w fun e w' => e = .returned (.tuple #[.bool (entB voc f g), .int .i64 (entE voc f g)]) ∧ Below w.heap.size w w' := by
  obtain ⟨fa, fc, fb, fo, rfl, -, -, -, -, -, -⟩ := hf.form
  obtain ⟨ga, gc, gb, go, rfl, -, -, -, -, -, -⟩ := hg.form
  have hb0 : Below w.heap.size w ((w.alloc (.cells #[.int .i64 f.op, .string f.name, .slice fa f.args.length fc] 24)).alloc (.cells #[.int .i64 g.op, .string g.name, .slice ga g.args.length gc] 24)) := ((Below.refl _ _).alloc (Nat.le_refl _) _).alloc (by simp) _
  have HB0 := hidIt hb0
  have HF := hidIt (hf.go hb0)
  have HG := hidIt (hg.go hb0)
  have HS := hidIt (hs.go hb0)
  have HK : Hid (((w.alloc (.cells #[.int .i64 f.op, .string f.name, .slice fa f.args.length fc] 24)).alloc (.cells #[.int .i64 g.op, .string g.name, .slice ga g.args.length gc] 24)).heap[w.heap.size + 1]? = some (.cells #[.int .i64 g.op, .string g.name, .slice ga g.args.length gc] 24 (0, 0))) := heap_alloc_at (by simp)
  have HMF := hidIt (r3models_any voc va vc hvn hvc hvm f hfn)
  have HMG := hidIt (r3models_any voc va vc hvn hvc hvm g hgn)
  have HENT : Hid (entE voc f g = if modE voc f = 0 then modE voc g else modE voc f) := rfl
  have HENB : Hid (entB voc f g = if entE voc f g = 0 then decide (modS voc f &&& ~~~(modS voc g) = 0#64) else false) := rfl
  clear hf hg hs hb0
  generalize modS voc f = A at *
  generalize modS voc g = B at *
  generalize modE voc f = ea at *
  generalize modE voc g = eb at *
  generalize entE voc f g = ee at *
  generalize entB voc f g = bb at *
  go_enter Tryz.func42, Tryz.ntmps42
  go_wp2_with fail
  refine (HMF.out _ _ HF.out HS.out).mono ?_
  rintro e w1 ⟨rfl, hb1⟩
  have HB1 := hidIt (HB0.out.trans (Below.mono hb1 HB0.out.size))
  have HK1 := hidIt (blk_kept HK.out hb1)
  have HG1 := hidIt (HG.out.go hb1)
  have HS1 := hidIt (HS.out.go hb1)
  obtain ⟨p0, p1, p2⟩ := cell_of3 HK1.out
  have hpl := lt_of_block HK1.out
  clear hb1 HB0 HK HF HG HS
  by_cases h1 : ea = 0
  · have hE : Hid (ee = eb) := by show _ = _; rw [HENT.out, if_pos h1]
    have h1' : ((ea != 0) : Bool) = false := by simp [h1]
    go_wp2_with fail
    refine (HMG.out _ _ HG1.out HS1.out).mono ?_
    rintro e w2 ⟨rfl, hb2⟩
    have HB2 := hidIt (HB1.out.trans (Below.mono hb2 HB1.out.size))
    clear hb2
    by_cases h2 : eb = 0
    · have h2' : ((eb != 0) : Bool) = false := by simp [h2]
      have hB : Hid (bb = decide (A &&& ~~~B = 0#64)) := by show _ = _; rw [HENB.out, hE.out, if_pos h2]
      have hz : Hid (((((A &&& ~~~B).toNat : Int) == 0) : Bool) = decide (A &&& ~~~B = 0#64)) := eq_bv (A &&& ~~~B) 0#64
      go_wp2_with fail
      go_ret2
      exact ⟨ret_be (by rw [hB.out, ← hz.out, bits_andNot_bv]) (by rw [hE.out, h2]), HB2.out⟩
    · have h2' : ((eb != 0) : Bool) = true := by simp [h2]
      have hB : Hid (bb = false) := by show _ = _; rw [HENB.out, hE.out, if_neg h2]
      go_wp2_with fail
      go_ret2
      exact ⟨ret_be hB.out.symm hE.out.symm, HB2.out⟩
  · have hE : Hid (ee = ea) := by show _ = _; rw [HENT.out, if_neg h1]
    have hB : Hid (bb = false) := by show _ = _; rw [HENB.out, hE.out, if_neg h1]
    have h1' : ((ea != 0) : Bool) = true := by simp [h1]
    go_wp2_with fail
    go_ret2
    exact ⟨ret_be hB.out.symm hE.out.symm, HB1.out⟩
end Go.Proofs.YtilkpjcbmllgmaaGreatDoor

namespace Go.Proofs.YtilkpjcbmllgmaaGreatDoor
set_option linter.unusedVariables false
set_option linter.unusedSimpArgs false
open Go.RowKit

/-- A list of formulas in a row that the call owns, from block B on; the formulas lie in blocks of S. -/
def OwnG (w : World) (B : Nat) (S : Nat → Prop) (v : Value) (ts : List Tree) : Prop :=
  ∃ hs : List (Option Addr × Nat), hs.length = ts.length ∧ w.ownsRow B 24 3 v ts.length (flatF (hds ts hs)) ∧
    ∀ i (h : i < ts.length) (h' : i < hs.length), FormIn w S (ts[i].hd hs[i].1 hs[i].2).val ts[i]
theorem OwnG.go {w w' : World} {B : Nat} {S : Nat → Prop} {v : Value} {ts : List Tree} (h : OwnG w B S v ts) (hb : Below w.heap.size w w') : OwnG w' B S v ts := by
  obtain ⟨hs, h1, h2, h3⟩ := h
  exact ⟨hs, h1, World.ownsRow.kept h2 (only_of_below hb none) (by
    cases hv : v.ownBlock with
    | none => exact .inl rfl
    | some g => exact .inr (fun e => by cases e)), fun i hi hi' => (h3 i hi hi').go hb⟩

theorem OwnG.val {w : World} {B : Nat} {S : Nat → Prop} {v : Value} {ts : List Tree} (h : OwnG w B S v ts) : ∃ (a : Option Addr) (c : Nat), v = .slice a ts.length c := by
  obtain ⟨hs, h1, ho, -⟩ := h
  rcases ho.2 with ⟨rfl, e⟩ | ⟨g, cap, cur, rfl, -⟩
  · exact ⟨none, 0, by rw [e]⟩
  · exact ⟨_, _, rfl⟩
/-- The headers of a row. -/
theorem FormsIn.hs {w : World} {S : Nat → Prop} {a : Option Addr} {ts : List Tree} (h : FormsIn w S a ts) (h0 : 0 < ts.length) :
    ∃ (b off : Nat) (hs : List (Option Addr × Nat)), a = some ⟨b, off, none⟩ ∧ hs.length = ts.length ∧ (∀ j u, (flatF (hds ts hs))[j]? = some u → w.cell? ⟨b, off + j, none⟩ = some u) ∧
      ∀ i (h : i < ts.length) (h' : i < hs.length), FormIn w S (ts[i].hd hs[i].1 hs[i].2).val ts[i] := by
  obtain ⟨b, off, ha, hc⟩ := h
  have key : ∃ hs : List (Option Addr × Nat), hs.length = ts.length ∧ ∀ i (h : i < ts.length) (h' : i < hs.length), w.cell? ⟨b, off + i * 3, none⟩ = some (.int .i64 ts[i].op) ∧ w.cell? ⟨b, off + i * 3 + 1, none⟩ = some (.string ts[i].name) ∧ w.cell? ⟨b, off + i * 3 + 2, none⟩ = some (.slice hs[i].1 ts[i].args.length hs[i].2) ∧ FormIn w S (ts[i].hd hs[i].1 hs[i].2).val ts[i] := by
    refine ⟨List.ofFn fun i : Fin ts.length => ((hc i.val i.isLt).choose, (hc i.val i.isLt).choose_spec.choose), by simp, fun i hi hi' => ?_⟩
    simp only [List.getElem_ofFn]
    exact (hc i hi).choose_spec.choose_spec
  obtain ⟨hs, h1, h2⟩ := key
  refine ⟨b, off, hs, (ha h0).1, h1, fun j u hj => ?_, fun i hi hi' => (h2 i hi hi').2.2.2⟩
  have hlen : (hds ts hs).length = ts.length := by simp [hds, h1]
  have hjl : j < (flatF (hds ts hs)).length := by
    rcases Nat.lt_or_ge j (flatF (hds ts hs)).length with h | h
    · exact h
    · rw [List.getElem?_eq_none h] at hj; cases hj
  rw [flatF_len, hlen] at hjl
  have hi : j / 3 < ts.length := by omega
  have hz : j / 3 < (hds ts hs).length := by omega
  have e : j / 3 * 3 + j % 3 = j := by omega
  have hg := flatF_get (hds ts hs) (j / 3) (j % 3) hz (by omega)
  rw [e, hj] at hg
  obtain ⟨c0, c1, c2, -⟩ := h2 (j / 3) hi (by omega)
  have e2 : off + j = off + j / 3 * 3 + j % 3 := by omega
  rw [e2]
  have hgz : (hds ts hs)[j / 3] = ts[j / 3].hd (hs[j / 3]'(by omega)).1 (hs[j / 3]'(by omega)).2 := by simp [hds]
  rw [hgz] at hg
  have h3 : j % 3 = 0 ∨ j % 3 = 1 ∨ j % 3 = 2 := by omega
  rcases h3 with h3 | h3 | h3
  · rw [h3] at hg ⊢
    simp [Hd.cells, Tree.hd] at hg
    rw [hg]; exact c0
  · rw [h3] at hg ⊢
    simp [Hd.cells, Tree.hd] at hg
    rw [hg]; exact c1
  · rw [h3] at hg ⊢
    simp [Hd.cells, Tree.hd] at hg
    rw [hg]; exact c2

theorem run_append_forms {w : World} (ty : TypeId) (B nb : Nat) (hnb : B ≤ nb) (hB : B ≤ w.heap.size) (hblk : w.heap[nb]? = some (.cells #[] 24 (0, 0))) {S : Nat → Prop} {a : Option Addr} {cap : Nat} {ts : List Tree} (hf : FormsIn w S a ts) (h0 : 0 < ts.length) (hlen : ts.length ≤ 1000000) :
    ∃ v' w', (Builtin.append_ #[22, 22] ty #[.slice (some ⟨nb, 0, none⟩) 0 0, .slice a ts.length cap]).run Tryz.prog w = .ok v' w' ∧ OwnG w' B S v' ts ∧ Below w.heap.size w w' := by
  obtain ⟨i0, hi, hz0, hz1, hz2⟩ := info_parts infoF
  obtain ⟨b, off, hs, rfl, h1, hcells, hform⟩ := hf.hs h0
  have hadd : ∀ j, (⟨b, off, none⟩ : Addr).add j = ⟨b, off + j, none⟩ := fun j => by unfold Addr.add; split <;> simp_all
  have hl : (flatF (hds ts hs)).length = ts.length * i0.size := by
    rw [flatF_len, hz1]
    simp [hds, h1]
  have hnews : ∀ j u, (flatF (hds ts hs))[j]? = some u → w.cell? ((⟨b, off, none⟩ : Addr).add j) = some u := fun j u hj => by rw [hadd]; exact hcells j u hj
  have hown : w.ownsRow B 24 i0.size (.slice (some ⟨nb, 0, none⟩) 0 0) 0 [] := ⟨by simp, .inr ⟨nb, 0, #[], rfl, hnb, hblk, Nat.le_refl _, Nat.zero_le _, by simp, by simp⟩⟩
  obtain ⟨v', w', hr, h2, -, -⟩ := run_append_own (P := Tryz.prog) w B 22 ty 24 i0 _ i0.size 48 Tryz.underlying22 hi hz0 rfl hz2 (by rw [hz1]; rfl) (by rw [hz1]; decide) _ 0 [] hown ⟨b, off, none⟩ ts.length cap _ hl hnews (flatF_one _) (by unfold maxLen; omega) (by omega) hB
  have hx := run_append_grow (P := Tryz.prog) w 22 ty 24 i0 _ Tryz.underlying22 hi hz0 ⟨nb, 0, none⟩ 0 0 [] (by simp) (by intro j v h; simp at h) ⟨b, off, none⟩ ts.length cap _ hl hnews (by omega) (by omega) (growslice_fits (by omega) (by rw [hz2]; omega))
  have hbel : Below w.heap.size w w' := by
    rw [hx] at hr
    injection hr with _ hr
    rw [← hr]
    exact ⟨rfl, rfl, rfl, by simp, fun k hk => heap_alloc_old w.drew _ hk⟩
  rw [hz1] at h2
  simp only [Nat.zero_add, List.nil_append] at h2
  exact ⟨v', w', hr, ⟨hs, h1, h2, fun i hi hi' => (hform i hi hi').go hbel⟩, hbel⟩

theorem run_append_nothing {w : World} (ty : TypeId) (nb : Nat) (a : Option Addr) (cap : Nat) :
    (Builtin.append_ #[22, 22] ty #[.slice (some ⟨nb, 0, none⟩) 0 0, .slice a 0 cap]).run Tryz.prog w = .ok (.slice (some ⟨nb, 0, none⟩) 0 0) w := by
  obtain ⟨i0, hi, hz0, hz1, hz2⟩ := info_parts infoF
  cases a <;> simp [Builtin.append_, run_underlying Tryz.underlying22, sizeOf, typeInfo, hi, Builtin.lenOf, Builtin.firstCells, loadCells, loadCellsFrom, storeCells]

/-- The same, whatever the list's length. -/
theorem run_append_all {w : World} (ty : TypeId) (B nb : Nat) (hnb : B ≤ nb) (hB : B ≤ w.heap.size) (hblk : w.heap[nb]? = some (.cells #[] 24 (0, 0))) {S : Nat → Prop} {a : Option Addr} {cap : Nat} {ts : List Tree} (hf : FormsIn w S a ts) (hlen : ts.length ≤ 1000000) :
    ∃ v' w', (Builtin.append_ #[22, 22] ty #[.slice (some ⟨nb, 0, none⟩) 0 0, .slice a ts.length cap]).run Tryz.prog w = .ok v' w' ∧ OwnG w' B S v' ts ∧ Below w.heap.size w w' := by
  by_cases h0 : 0 < ts.length
  · exact run_append_forms ty B nb hnb hB hblk hf h0 hlen
  · obtain rfl : ts = [] := List.eq_nil_of_length_eq_zero (by omega)
    exact ⟨_, _, run_append_nothing ty nb a cap, ⟨[], rfl, ⟨by simp [hds, flatF], .inr ⟨nb, 0, #[], rfl, hnb, hblk, Nat.le_refl _, Nat.zero_le _, by simp, by simp [hds, flatF]⟩⟩, fun i h => by simp at h⟩, Below.refl _ _⟩

/-- At a step of a region that draws its order. -/
theorem step_append_all {w : World} {ops : Array Oper} {o : Oper} {a : Act} {K : Act → World → Prop} {Q : Exit → Act → World → Prop} {E : Prop} (hgd : o.guard = none) (s x : Operand)
    (ho : o.op = .call { callee := .builtin .append, args := #[s, x], argTypes := #[22, 22] }) (B nb : Nat) (hs : a.eval s = .slice (some ⟨nb, 0, none⟩) 0 0) (hnb : B ≤ nb) (hB : B ≤ w.heap.size) (hblk : w.heap[nb]? = some (.cells #[] 24 (0, 0)))
    {S : Nat → Prop} {ad : Option Addr} {cap : Nat} {ts : List Tree} (hx : a.eval x = .slice ad ts.length cap) (hf : FormsIn w S ad ts) (hlen : ts.length ≤ 1000000)
    (h : ∀ v' w', OwnG w' B S v' ts → Below w.heap.size w w' → K (a.put o.dst v') w') :
    if Region.wanted o (yielded ops a.tmps) = true then Oper.wp Tryz.prog o a w K Q else E := by
  have hw : Region.wanted o (yielded ops a.tmps) = true := by simp [Region.wanted, hgd]
  rw [if_pos hw]
  obtain ⟨v', w', hr, h1, h2⟩ := run_append_all (w := w) o.type B nb hnb hB hblk (cap := cap) hf hlen
  unfold Oper.wp execOp
  simp only [ho, resolve, invoke, builtin, Sem.run_bind, Sem.run_pure, Result.andThen_ok, List.map_toArray, List.map_cons, List.map_nil, hs, hx, hr]
  exact h v' w' h1 h2
end Go.Proofs.YtilkpjcbmllgmaaGreatDoor

namespace Go.Proofs.YtilkpjcbmllgmaaGreatDoor
set_option linter.unusedVariables false
set_option linter.unusedSimpArgs false
open Go.RowKit

theorem ext_cell3 {W : World} {b o : Nat} {v : Value} (h : W.cell? ⟨b, o, none⟩ = some v) : ∀ w, Ext W w → w.cell? ⟨b, o, none⟩ = some v := fun w hw => Ext.cell h ⟨w, hw⟩

theorem set_row3 (w : World) (b k : Nat) (x y z : Value) : w.grownBy (((w.setCell ⟨b, k, none⟩ x).setCell ⟨b, k + 1, none⟩ y).setCell ⟨b, k + 2, none⟩ z) (some b) :=
  only_setCell (p := ⟨b, k + 2, none⟩) (only_setCell (p := ⟨b, k + 1, none⟩) (only_setCell (p := ⟨b, k, none⟩) (only_refl w (some b)) (.inl rfl) x) (.inl rfl) y) (.inl rfl) z

theorem OwnG.form {w : World} {B : Nat} {S : Nat → Prop} {v : Value} {ts : List Tree} (h : OwnG w B S v ts) : ∃ (a : Option Addr) (c : Nat), v = .slice a ts.length c ∧ ts.length ≤ c ∧ c ≤ maxLen ∧ FormsIn w (fun k => S k ∨ B ≤ k) a ts := by
  obtain ⟨hs, h1, ho, hf⟩ := h
  rcases ho.2 with ⟨rfl, h0⟩ | ⟨g, cap, cur, rfl, hB, hg, hnc, hcm, hcs, htake⟩
  · have : ts = [] := List.eq_nil_of_length_eq_zero h0
    subst this
    exact ⟨none, 0, rfl, Nat.le_refl _, Nat.zero_le _, FormsIn.nil none⟩
  · refine ⟨_, cap, rfl, hnc, hcm, FormsIn.of_cells hs ts h1 (.inr hB) (fun j u hj => ?_) (fun i hi hi' => (hf i hi hi').mono fun k _ hk => .inl hk)⟩
    have := World.ownsRow.cells ho (g := g) rfl j u hj
    have e : (⟨g, 0, none⟩ : Addr).add j = ⟨g, 0 + j, none⟩ := by unfold Addr.add; split <;> simp_all
    rwa [e] at this
theorem OwnG.block {w : World} {B : Nat} {S : Nat → Prop} {v : Value} {ts : List Tree} (h : OwnG w B S v ts) : ∀ g, v.ownBlock = some g → B ≤ g ∧ g < w.heap.size := by
  obtain ⟨hs, -, ho, -⟩ := h
  exact World.ownsRow.lt ho
theorem OwnG.kept {w w' : World} {B : Nat} {S : Nat → Prop} {v : Value} {ts : List Tree} {row : Option Nat} (h : OwnG w B S v ts) (hg : w.grownBy w' row) (hr : ∀ g, row = some g → v.ownBlock ≠ some g ∧ ¬ S g) : OwnG w' B S v ts := by
  obtain ⟨hs, h1, ho, hf⟩ := h
  refine ⟨hs, h1, World.ownsRow.kept ho hg ?_, fun i hi hi' => (hf i hi hi').kept fun k hk hl => hg.block k hl (fun e => (hr k e.symm).2 hk)⟩
  cases hv : v.ownBlock with
  | none => exact .inl rfl
  | some g => exact .inr (fun e => (hr g e.symm).1 hv)

/-- The list as a row: its own block, and the formulas'. -/
theorem OwnG.row {w : World} {B : Nat} {S : Nat → Prop} {v : Value} {ts : List Tree} (h : OwnG w B S v ts) : ∃ (a : Option Addr) (c : Nat), v = .slice a ts.length c ∧ ts.length ≤ c ∧ c ≤ maxLen ∧ FormsIn w (fun k => S k ∨ v.ownBlock = some k) a ts ∧ (0 < ts.length → ∃ g, a = some ⟨g, 0, none⟩ ∧ v.ownBlock = some g) := by
  obtain ⟨hs, h1, ho, hf⟩ := h
  rcases ho.2 with ⟨rfl, h0⟩ | ⟨g, cap, cur, rfl, hB, hg, hnc, hcm, hcs, htake⟩
  · have : ts = [] := List.eq_nil_of_length_eq_zero h0
    subst this
    exact ⟨none, 0, rfl, Nat.le_refl _, Nat.zero_le _, FormsIn.nil none, fun h => by simp at h⟩
  · refine ⟨_, cap, rfl, hnc, hcm, FormsIn.of_cells hs ts h1 (.inr rfl) (fun j u hj => ?_) (fun i hi hi' => (hf i hi hi').mono fun k _ hk => .inl hk), fun _ => ⟨g, rfl, rfl⟩⟩
    have := World.ownsRow.cells ho (g := g) rfl j u hj
    have e : (⟨g, 0, none⟩ : Addr).add j = ⟨g, 0 + j, none⟩ := by unfold Addr.add; split <;> simp_all
    rwa [e] at this
theorem OwnG.at {w : World} {B : Nat} {S : Nat → Prop} {v : Value} {ts : List Tree} (h : OwnG w B S v ts) (i : Nat) (hi : i < ts.length) : ∃ (g : Nat) (cur : Array Value) (ai : Option Addr) (c ci : Nat), v = .slice (some ⟨g, 0, none⟩) ts.length c ∧ B ≤ g ∧ g < w.heap.size ∧ w.heap[g]? = some (.cells cur 24 (0, 0)) ∧
    w.cell? ⟨g, i * 3, none⟩ = some (.int .i64 ts[i].op) ∧ w.cell? ⟨g, i * 3 + 1, none⟩ = some (.string ts[i].name) ∧ w.cell? ⟨g, i * 3 + 2, none⟩ = some (.slice ai ts[i].args.length ci) ∧
    (∀ k, w.frozen? ⟨g, k, none⟩ = false) ∧ FormIn w S (.agg #[.int .i64 ts[i].op, .string ts[i].name, .slice ai ts[i].args.length ci]) ts[i] := by
  obtain ⟨hs, h1, ho, hf⟩ := h
  rcases ho.2 with ⟨rfl, h0⟩ | ⟨g, cap, cur, rfl, hB, hg, hnc, hcm, hcs, htake⟩
  · omega
  · have hi' : i < hs.length := by omega
    have hz : i < (hds ts hs).length := by unfold hds; rw [List.length_zipWith]; omega
    have gg : ∀ j, j < 3 → (flatF (hds ts hs))[i * 3 + j]? = (ts[i].hd hs[i].1 hs[i].2).cells[j]? := fun j hj => by
      rw [flatF_get _ i j hz hj]
      simp [hds]
    have cc : ∀ j u, (flatF (hds ts hs))[j]? = some u → w.cell? ⟨g, j, none⟩ = some u := fun j u hj => by
      have := World.ownsRow.cells ho (g := g) rfl j u hj
      have e : (⟨g, 0, none⟩ : Addr).add j = ⟨g, j, none⟩ := by unfold Addr.add; split <;> simp_all
      rwa [e] at this
    exact ⟨g, cur, hs[i].1, cap, hs[i].2, rfl, hB, (World.ownsRow.lt ho g rfl).2, hg, cc _ _ (gg 0 (by omega)), cc _ _ (gg 1 (by omega)), cc _ _ (gg 2 (by omega)), fun k => free_any hg k, hf i hi hi'⟩
theorem cur_at {w : World} {g k : Nat} {cur : Array Value} {ty : TypeId} {x : Value} (hg : w.heap[g]? = some (.cells cur ty (0, 0))) (h : w.cell? ⟨g, k, none⟩ = some x) : cur[k]? = some x ∧ k < cur.size := by
  have h1 : cur[k]? = some x := by simpa [World.cell?, hg] using h
  exact ⟨h1, (Array.getElem?_eq_some_iff.1 h1).1⟩
theorem cell_put3 {w : World} {g k j : Nat} {cur : Array Value} {ty : TypeId} (hg : w.heap[g]? = some (.cells cur ty (0, 0))) (x y z : Value) (h : j < k ∨ k + 2 < j) :
    (((w.setCell ⟨g, k, none⟩ x).setCell ⟨g, k + 1, none⟩ y).setCell ⟨g, k + 2, none⟩ z).cell? ⟨g, j, none⟩ = w.cell? ⟨g, j, none⟩ := by
  have hk := setCell_heap_self (k := k + 2) (setCell_heap_self (k := k + 1) (setCell_heap_self (k := k) hg x) y) z
  have e0 : ¬ k = j := by omega
  have e1 : ¬ k + 1 = j := by omega
  have e2 : ¬ k + 2 = j := by omega
  simp [World.cell?, hk, hg, Array.getElem?_setIfInBounds, e0, e1, e2]
theorem cell_put3_at {w : World} {g k : Nat} {cur : Array Value} {ty : TypeId} (hg : w.heap[g]? = some (.cells cur ty (0, 0))) (x y z : Value) (h : k + 2 < cur.size) :
    (((w.setCell ⟨g, k, none⟩ x).setCell ⟨g, k + 1, none⟩ y).setCell ⟨g, k + 2, none⟩ z).cell? ⟨g, k, none⟩ = some x ∧
    (((w.setCell ⟨g, k, none⟩ x).setCell ⟨g, k + 1, none⟩ y).setCell ⟨g, k + 2, none⟩ z).cell? ⟨g, k + 1, none⟩ = some y ∧
    (((w.setCell ⟨g, k, none⟩ x).setCell ⟨g, k + 1, none⟩ y).setCell ⟨g, k + 2, none⟩ z).cell? ⟨g, k + 2, none⟩ = some z := by
  have hk := setCell_heap_self (k := k + 2) (setCell_heap_self (k := k + 1) (setCell_heap_self (k := k) hg x) y) z
  have h0 : k < cur.size := by omega
  have h1 : k + 1 < cur.size := by omega
  refine ⟨?_, ?_, ?_⟩ <;> simp [World.cell?, hk, Array.getElem?_setIfInBounds, h, h0, h1]

/-- One formula of an owned row is written anew. -/
theorem OwnG.put {w : World} {B : Nat} {S S' : Nat → Prop} {g n c : Nat} {ts : List Tree} (h : OwnG w B S (.slice (some ⟨g, 0, none⟩) n c) ts) (hSS : ∀ i, S i → S' i) (hSg : ¬ S' g) (m : Nat) (hm : m < ts.length) {o : Int} {s : ByteArray} {a : Option Addr} {n' c' : Nat} {T : Tree}
    (hT : FormIn w S' (.agg #[.int .i64 o, .string s, .slice a n' c']) T) :
    FormsIn (((w.setCell ⟨g, m * 3, none⟩ (.int .i64 o)).setCell ⟨g, m * 3 + 1, none⟩ (.string s)).setCell ⟨g, m * 3 + 2, none⟩ (.slice a n' c')) (fun i => S' i ∨ i = g) (some ⟨g, 0, none⟩) (ts.set m T) := by
  have hrow := set_row3 w g (m * 3) (.int .i64 o) (.string s) (.slice a n' c')
  obtain ⟨rfl, rfl, rfl⟩ := hT.shape
  refine ⟨g, 0, fun _ => ⟨rfl, .inr rfl⟩, fun i hi => ?_⟩
  simp only [List.length_set] at hi
  rw [Nat.zero_add]
  obtain ⟨g', cur, ai, cx, ci, ea, -, -, hcur, q0, q1, q2, -, hfi⟩ := h.at i hi
  injection ea with ea
  injection ea with ea
  injection ea with ea
  subst ea
  have keep : ∀ {v : Value} {t : Tree}, FormIn w S' v t → FormIn (((w.setCell ⟨g, m * 3, none⟩ (.int .i64 T.op)).setCell ⟨g, m * 3 + 1, none⟩ (.string T.name)).setCell ⟨g, m * 3 + 2, none⟩ (.slice a T.args.length c')) (fun i => S' i ∨ i = g) v t := fun hf =>
    (hf.kept fun k hk hl => hrow.block k hl (fun e => hSg (by injection e with e; subst e; exact hk))).mono fun k _ hk => .inl hk
  by_cases e : m = i
  · subst e
    obtain ⟨-, hlt⟩ := cur_at hcur q2
    obtain ⟨c0, c1, c2⟩ := cell_put3_at hcur (.int .i64 T.op) (.string T.name) (.slice a T.args.length c') hlt
    simp only [List.getElem_set_self]
    exact ⟨a, c', c0, c1, c2, keep hT⟩
  · simp only [List.getElem_set_ne e]
    refine ⟨ai, ci, ?_, ?_, ?_, keep (hfi.mono fun k _ hk => hSS k hk)⟩
    · rw [cell_put3 hcur _ _ _ (by omega)]; exact q0
    · rw [cell_put3 hcur _ _ _ (by omega)]; exact q1
    · rw [cell_put3 hcur _ _ _ (by omega)]; exact q2
theorem OwnG.mono {w : World} {B : Nat} {S S' : Nat → Prop} {v : Value} {ts : List Tree} (h : OwnG w B S v ts) (hS : ∀ i, S i → S' i) : OwnG w B S' v ts := by
  obtain ⟨hs, h1, ho, hf⟩ := h
  exact ⟨hs, h1, ho, fun i hi hi' => (hf i hi hi').mono fun k _ hk => hS k hk⟩
theorem FormsIn.tail {w : World} {S : Nat → Prop} {g off : Nat} {t : Tree} {ts : List Tree} (h : FormsIn w S (some ⟨g, off, none⟩) (t :: ts)) : FormsIn w S (some ⟨g, off + 3, none⟩) ts := by
  obtain ⟨b', off', ha, hc⟩ := h
  obtain ⟨e, hS⟩ := ha (by simp)
  obtain ⟨rfl, rfl⟩ : g = b' ∧ off = off' := by
    injection e with e1
    injection e1 with e2 e3
    exact ⟨e2, e3⟩
  refine ⟨g, off + 3, fun _ => ⟨rfl, hS⟩, fun i hi => ?_⟩
  obtain ⟨a', c', h0, h1, h2, h3⟩ := hc (i + 1) (by simp; omega)
  simp only [List.getElem_cons_succ] at h0 h1 h2 h3
  have e : off + 3 + i * 3 = off + (i + 1) * 3 := by omega
  rw [e]
  exact ⟨a', c', h0, h1, h2, h3⟩

/-- append of one formula to a list that the call owns. -/
theorem run_append_formG {w : World} (ty : TypeId) (B : Nat) (S : Nat → Prop) (v : Value) (ts : List Tree) (hown : OwnG w B S v ts) (hS : ∀ i, S i → v.ownBlock ≠ some i)
    (m c1 : Nat) {op : Int} {nm : ByteArray} {ad : Option Addr} {n c : Nat} {tz : TypeId} (hm : w.heap[m]? = some (.cells #[.int .i64 op, .string nm, .slice ad n c] tz (0, 0))) (t : Tree)
    (hf : FormIn w S (.agg #[.int .i64 op, .string nm, .slice ad n c]) t) (hlen : ts.length ≤ 1000000) (hB : B ≤ w.heap.size) :
    ∃ a' c' w', (Builtin.append_ #[22, 22] ty #[v, .slice (some ⟨m, 0, none⟩) 1 c1]).run Tryz.prog w = .ok (.slice a' (ts.length + 1) c') w' ∧ OwnG w' B S (.slice a' (ts.length + 1) c') (ts ++ [t]) ∧ w.grownBy w' v.ownBlock ∧ ((Value.slice a' (ts.length + 1) c').ownBlock = v.ownBlock ∨ (Value.slice a' (ts.length + 1) c').ownBlock = some w.heap.size) := by
  obtain ⟨i0, hi, hz0, hz1, hz2⟩ := info_parts infoF
  obtain ⟨rfl, rfl, rfl⟩ := hf.shape
  obtain ⟨hs', h1, hrow, hfs⟩ := hown
  have hnews : ∀ j u, ((t.hd ad c).cells)[j]? = some u → w.cell? ((⟨m, 0, none⟩ : Addr).add j) = some u := by
    obtain ⟨p0, p1, p2⟩ := cell_of3 hm
    intro j u hj
    have e : (⟨m, 0, none⟩ : Addr).add j = ⟨m, j, none⟩ := by unfold Addr.add; split <;> simp_all
    rw [e]
    match j with
    | 0 => simp only [Hd.cells, Tree.hd, List.getElem?_cons_zero, Option.some.injEq] at hj; rw [← hj]; exact p0
    | 1 => simp only [Hd.cells, Tree.hd, List.getElem?_cons_zero, List.getElem?_cons_succ, Option.some.injEq] at hj; rw [← hj]; exact p1
    | 2 => simp only [Hd.cells, Tree.hd, List.getElem?_cons_zero, List.getElem?_cons_succ, Option.some.injEq] at hj; rw [← hj]; exact p2
    | j + 3 => simp [Hd.cells] at hj
  have hone : ∀ u ∈ (t.hd ad c).cells, u.oneCell' = true := fun u hu => flatF_one [t.hd ad c] u (by simpa [flatF] using hu)
  have hl : ((t.hd ad c).cells).length = 1 * i0.size := by rw [hz1]; rfl
  rw [← hz1] at hrow
  obtain ⟨v', w', hr, h2, h3, h4⟩ := run_append_own (P := Tryz.prog) w B 22 ty 24 i0 _ i0.size 48 Tryz.underlying22 hi hz0 rfl hz2 (by rw [hz1]; rfl) (by rw [hz1]; decide) v ts.length _ hrow ⟨m, 0, none⟩ 1 c1 _ hl hnews hone (by unfold maxLen; omega) (by omega) hB
  have hbl := append_block (P := Tryz.prog) (w := w) B 22 ty 24 i0 _ Tryz.underlying22 hi hz0 v ts.length _ hrow ⟨m, 0, none⟩ 1 c1 _ hl hnews hone (by omega) (by omega) (by rw [hz2]; omega) hr
  have hwp : OwnG w' B S v' (ts ++ [t]) := by
    refine ⟨hs' ++ [(ad, c)], by simp [h1], ?_, fun i hi1 hi2 => ?_⟩
    · rw [zip_snoc ts hs' t (ad, c) h1, flatF_append, List.length_append]
      rw [hz1] at h2
      have e : flatF [t.hd ad c] = (t.hd ad c).cells := by simp [flatF]
      rw [e]
      exact h2
    · have hgo : ∀ {u : Value} {y : Tree}, FormIn w S u y → FormIn w' S u y := fun hy => hy.kept (fun k hk hl => h3.block k hl (fun e => hS k hk e.symm))
      by_cases hi3 : i < ts.length
      · have := hgo (hfs i hi3 (by omega))
        simp only [List.getElem_append_left hi3, List.getElem_append_left (show i < hs'.length by omega)]
        exact this
      · have hi4 : i = ts.length := by simp at hi1; omega
        subst hi4
        have := hgo hf
        simp only [List.getElem_append_right (Nat.le_refl _), List.getElem_append_right (show hs'.length ≤ ts.length by omega), h1, Nat.sub_self, List.getElem_cons_zero]
        exact this
  obtain ⟨a', c', rfl⟩ := hwp.val
  have e : (ts ++ [t]).length = ts.length + 1 := by simp
  rw [e] at hr hwp hbl
  exact ⟨a', c', w', hr, hwp, h3, hbl⟩

theorem step_append_formG {w : World} {ops : Array Oper} {o : Oper} {a : Act} {K : Act → World → Prop} {Q : Exit → Act → World → Prop} {E : Prop} (hgd : o.guard = none) (s x : Operand)
    (ho : o.op = .call { callee := .builtin .append, args := #[s, x], argTypes := #[22, 22] }) (B : Nat) (S : Nat → Prop) (v : Value) (ts : List Tree) (hs : a.eval s = v) (hown : OwnG w B S v ts) (hS : ∀ i, S i → v.ownBlock ≠ some i)
    (m c1 : Nat) (hx : a.eval x = .slice (some ⟨m, 0, none⟩) 1 c1) {op : Int} {nm : ByteArray} {ad : Option Addr} {n c : Nat} {tz : TypeId} (hm : w.heap[m]? = some (.cells #[.int .i64 op, .string nm, .slice ad n c] tz (0, 0))) (t : Tree)
    (hf : FormIn w S (.agg #[.int .i64 op, .string nm, .slice ad n c]) t) (hlen : ts.length ≤ 1000000) (hB : B ≤ w.heap.size)
    (h : ∀ a' c' w', OwnG w' B S (.slice a' (ts.length + 1) c') (ts ++ [t]) → w.grownBy w' v.ownBlock → ((Value.slice a' (ts.length + 1) c').ownBlock = v.ownBlock ∨ (Value.slice a' (ts.length + 1) c').ownBlock = some w.heap.size) → K (a.put o.dst (.slice a' (ts.length + 1) c')) w') :
    if Region.wanted o (yielded ops a.tmps) = true then Oper.wp Tryz.prog o a w K Q else E := by
  have hw : Region.wanted o (yielded ops a.tmps) = true := by simp [Region.wanted, hgd]
  rw [if_pos hw]
  obtain ⟨a', c', w', hr, h1, h2, h3⟩ := run_append_formG (w := w) o.type B S v ts hown hS m c1 hm t hf hlen hB
  unfold Oper.wp execOp
  simp only [ho, resolve, invoke, builtin, Sem.run_bind, Sem.run_pure, Result.andThen_ok, List.map_toArray, List.map_cons, List.map_nil, hs, hx, hr]
  exact h a' c' w' h1 h2 h3

/-- The copy of a list that is not empty lies in a block that did not exist before. -/
theorem run_append_formsO {w : World} (ty : TypeId) (B nb : Nat) (hnb : B ≤ nb) (hB : B ≤ w.heap.size) (hblk : w.heap[nb]? = some (.cells #[] 24 (0, 0))) {S : Nat → Prop} {a : Option Addr} {cap : Nat} {ts : List Tree} (hf : FormsIn w S a ts) (h0 : 0 < ts.length) (hlen : ts.length ≤ 1000000) :
    ∃ v' w', (Builtin.append_ #[22, 22] ty #[.slice (some ⟨nb, 0, none⟩) 0 0, .slice a ts.length cap]).run Tryz.prog w = .ok v' w' ∧ OwnG w' B S v' ts ∧ Below w.heap.size w w' ∧ Own.newV v' w w' := by
  obtain ⟨v', w', hr, h1, h2⟩ := run_append_forms ty B nb hnb hB hblk (cap := cap) hf h0 hlen
  refine ⟨v', w', hr, h1, h2, ?_⟩
  obtain ⟨i0, hi, hz0, hz1, hz2⟩ := info_parts infoF
  obtain ⟨b, off, hs, rfl, h3, hcells, hform⟩ := hf.hs h0
  have hadd : ∀ j, (⟨b, off, none⟩ : Addr).add j = ⟨b, off + j, none⟩ := fun j => by unfold Addr.add; split <;> simp_all
  have hl : (flatF (hds ts hs)).length = ts.length * i0.size := by
    rw [flatF_len, hz1]
    simp [hds, h3]
  have hx := run_append_grow (P := Tryz.prog) w 22 ty 24 i0 _ Tryz.underlying22 hi hz0 ⟨nb, 0, none⟩ 0 0 [] (by simp) (by intro j v h; simp at h) ⟨b, off, none⟩ ts.length cap _ hl (fun j u hj => by rw [hadd]; exact hcells j u hj) (by omega) (by omega) (growslice_fits (by omega) (by rw [hz2]; omega))
  rw [hx] at hr
  injection hr with e1 e2
  subst e1 e2
  intro g hg
  simp only [Own.vblk, Option.some.injEq] at hg
  subst hg
  exact ⟨Nat.le_refl _, by simp⟩

/-- An empty list in a block of its own. -/
def isNil (L : Nat) : Value → World → Prop := fun v w => ∃ nb : Nat, v = .slice (some ⟨nb, 0, none⟩) 0 0 ∧ L ≤ nb ∧ w.heap[nb]? = some (.cells #[] 24 (0, 0))
theorem isNil_up (L : Nat) : GoesUp (isNil L) := fun _ _ _ hg ⟨nb, h1, h2, h3⟩ => ⟨nb, h1, h2, blk_kept h3 hg⟩
/-- A copy of a list. -/
def isCopy (L : Nat) (S : Nat → Prop) (ts : List Tree) : Value → World → Prop := fun v w => OwnG w L S v ts ∧ (ts.length = 0 → isNil L v w)
theorem isCopy_up (L : Nat) (S : Nat → Prop) (ts : List Tree) : GoesUp (isCopy L S ts) := fun _ _ _ hg ⟨h1, h2⟩ => ⟨h1.go hg, fun h => isNil_up L _ _ _ hg (h2 h)⟩

theorem rel_copy {W wx : World} {o : Oper} {a : Act} (s x : Operand) (ho : o.op = .call { callee := .builtin .append, args := #[s, x], argTypes := #[22, 22] }) (hC : Ext W wx) {L : Nat} (hL : L ≤ W.heap.size) {S : Nat → Prop} {ts : List Tree} {nb : Nat} (hs : a.eval s = .slice (some ⟨nb, 0, none⟩) 0 0)
    (hn : isNil L (.slice (some ⟨nb, 0, none⟩) 0 0) wx) {ad : Option Addr} {cap : Nat} (hx : a.eval x = .slice ad ts.length cap) (hf : FormsIn wx S ad ts) (hlen : ts.length ≤ 1000000) :
    Own.relUpon Tryz.prog (Ext W) Grows ⟨isCopy L S ts, decide (0 < ts.length)⟩ wx ((execOp a.eval o).run Tryz.prog wx) := by
  obtain ⟨nb', e, hnb, hblk⟩ := hn
  injection e with e
  injection e with e
  injection e with e
  subst e
  have hLw : L ≤ wx.heap.size := Nat.le_trans hL (Below.size hC)
  by_cases h0 : 0 < ts.length
  · obtain ⟨v', w', hr, h1, h2, h3⟩ := run_append_formsO (w := wx) o.type L nb hnb hLw hblk (cap := cap) hf h0 hlen
    unfold execOp
    simp only [ho, resolve, invoke, builtin, Sem.run_bind, Sem.run_pure, Result.andThen_ok, List.map_toArray, List.map_cons, List.map_nil, hs, hx, hr]
    exact ⟨hC.grown h2, h2, ⟨h1, fun h => by omega⟩, fun _ => h3⟩
  · obtain rfl : ts = [] := List.eq_nil_of_length_eq_zero (by omega)
    have hr := run_append_nothing (w := wx) o.type nb ad cap
    unfold execOp
    simp only [List.length_nil] at hx
    simp only [ho, resolve, invoke, builtin, Sem.run_bind, Sem.run_pure, Result.andThen_ok, List.map_toArray, List.map_cons, List.map_nil, hs, hx, hr]
    refine ⟨hC, Below.refl _ _, ⟨⟨[], rfl, ⟨by simp [hds, flatF], .inr ⟨nb, 0, #[], rfl, hnb, hblk, Nat.le_refl _, Nat.zero_le _, by simp, by simp [hds, flatF]⟩⟩, fun i h => by simp at h⟩, fun _ => ⟨nb, rfl, hnb, hblk⟩⟩, fun h => ?_⟩
    simp at h
end Go.Proofs.YtilkpjcbmllgmaaGreatDoor
