/- bits.OnesCount64 at sets of few worlds. Bytes: what a population count works out by bytes. math/bits.OnesCount64 at all sets: what the program works out is the number of the set's worlds. Lists of numbers that a call owns; keep.Ints at equal lists. Worlds, Size and Forget, of the program and of the reference, at lists of names whatever. Forget, of the reference and of the program, at lists of names whatever; All at what is no vocabulary. A cell with a list of names. -/
import Derived.Test.YtbihnfocghcplaaGreatDoorWorld
import Derived.Test.YtbihnfocghcplaaGreatDoorRef3

namespace Go.Proofs.YtbihnfocghcplaaGreatDoor
set_option linter.unusedVariables false
set_option linter.unusedSimpArgs false
open Go Go.RowKit

theorem bits_and_nat (a b : Nat) (ha : a < 18446744073709551616) (hb : b < 18446744073709551616) : bits .and .u64 (a : Int) (b : Int) = ((a &&& b : Nat) : Int) := by
  have h := bits_and_bv (BitVec.ofNat 64 a) (BitVec.ofNat 64 b)
  rw [BitVec.toNat_and, BitVec.toNat_ofNat, BitVec.toNat_ofNat, Nat.mod_eq_of_lt (by omega : a < 2 ^ 64), Nat.mod_eq_of_lt (by omega : b < 2 ^ 64)] at h
  exact h
theorem and_i64 (a : Nat) (ha : a < 9223372036854775808) : bits .and .i64 (a : Int) 127 = ((a % 128 : Nat) : Int) := by
  show IntKind.i64.wrap ((BitVec.ofInt 64 (a : Int) &&& BitVec.ofInt 64 ((127 : Nat) : Int)).toNat : Int) = _
  rw [BitVec.ofInt_natCast, BitVec.ofInt_natCast, BitVec.toNat_and, BitVec.toNat_ofNat, BitVec.toNat_ofNat, Nat.mod_eq_of_lt (by omega : a < 2 ^ 64)]
  have h : a &&& (127 % 2 ^ 64) = a % 128 := Nat.and_two_pow_sub_one_eq_mod a 7
  rw [h]
  have h1 : a % 128 < 128 := Nat.mod_lt _ (by omega)
  generalize a % 128 = n at h1
  simp [IntKind.wrap, IntKind.bits, IntKind.signed]
  omega
theorem wrap_nat (a : Nat) (ha : a < 18446744073709551616) : IntKind.u64.wrap (a : Int) = (a : Int) := by
  rw [IntKind.wrap_u64]
  omega
theorem wrap64_nat (a : Nat) (ha : a < 9223372036854775808) : wrap64 (a : Int) = (a : Int) := by
  unfold wrap64
  omega

/-- 'And' by bytes. -/
theorem land_byte (a b : Nat) : a &&& b = (a % 256 &&& b % 256) + 256 * (a / 256 &&& b / 256) := by
  have h1 := Nat.and_mod_two_pow (a := a) (b := b) (n := 8)
  have h2 := Nat.and_div_two_pow (a := a) (b := b) (n := 8)
  have e : (2 : Nat) ^ 8 = 256 := rfl
  rw [e] at h1 h2
  rw [← h1, ← h2]
  omega

theorem byte1 : ∀ b : Fin 256, ∀ c : Fin 2, ((b.val / 2 + 128 * c.val) &&& 85) = (b.val / 2 &&& 85) := by decide +kernel
theorem byte2 : ∀ b : Fin 256, ∀ c : Fin 4, ((b.val / 4 + 64 * c.val) &&& 51) = (b.val / 4 &&& 51) := by decide +kernel
theorem land_0 (l h M K N : Nat) (hl : l < 256) (hM : M = K + 256 * N) (hK : K < 256) : (l + 256 * h) &&& M = (l &&& K) + 256 * (h &&& N) := by
  rw [land_byte, show (l + 256 * h) % 256 = l by omega, show (l + 256 * h) / 256 = h by omega, show M % 256 = K by omega, show M / 256 = N by omega]
theorem land_1 (l h M N : Nat) (hl : l < 256) (hM : M = 85 + 256 * N) : (l + 256 * h) / 2 &&& M = (l / 2 &&& 85) + 256 * (h / 2 &&& N) := by
  rw [land_byte, show (l + 256 * h) / 2 % 256 = l / 2 + 128 * (h % 2) by omega, show (l + 256 * h) / 2 / 256 = h / 2 by omega, show M % 256 = 85 by omega, show M / 256 = N by omega]
  have := byte1 ⟨l, hl⟩ ⟨h % 2, by omega⟩
  rw [show ((l / 2 + 128 * (h % 2)) &&& 85) = (l / 2 &&& 85) from this]
theorem land_2 (l h M N : Nat) (hl : l < 256) (hM : M = 51 + 256 * N) : (l + 256 * h) / 4 &&& M = (l / 4 &&& 51) + 256 * (h / 4 &&& N) := by
  rw [land_byte, show (l + 256 * h) / 4 % 256 = l / 4 + 64 * (h % 4) by omega, show (l + 256 * h) / 4 / 256 = h / 4 by omega, show M % 256 = 51 by omega, show M / 256 = N by omega]
  have := byte2 ⟨l, hl⟩ ⟨h % 4, by omega⟩
  rw [show ((l / 4 + 64 * (h % 4)) &&& 51) = (l / 4 &&& 51) from this]

def t1 (b : Nat) : Nat := (b / 2 &&& 85) + (b &&& 85)
def t2 (b : Nat) : Nat := (b / 4 &&& 51) + (b &&& 51)
def pop (b : Nat) : Nat := t2 (t1 b) % 16 + t2 (t1 b) / 16
def byteOk (b : Nat) : Bool := decide (t1 b < 256) && decide (t2 (t1 b) % 16 ≤ 4) && decide (t2 (t1 b) / 16 ≤ 4) && decide (pop b + pop (255 - b) = 8)
theorem byte_F : ∀ b : Fin 256, byteOk b.val = true := by decide +kernel
theorem byte_ok (b : Nat) (h : b < 256) : t1 b < 256 ∧ t2 (t1 b) % 16 ≤ 4 ∧ t2 (t1 b) / 16 ≤ 4 ∧ pop b + pop (255 - b) = 8 := by
  have := byte_F ⟨b, h⟩
  simp only [byteOk, Bool.and_eq_true, decide_eq_true_eq] at this
  exact ⟨this.1.1.1, this.1.1.2, this.1.2, this.2⟩
theorem and15 (v : Nat) : v &&& 15 = v % 16 := Nat.and_two_pow_sub_one_eq_mod v 4

/-- Four bytes. -/
abbrev by4 (a b c d : Nat) : Nat := a + 256 * (b + 256 * (c + 256 * d))
theorem st1 (a b c d : Nat) (ha : a < 256) (hb : b < 256) (hc : c < 256) (hd : d < 256) : (by4 a b c d / 2 &&& 6148914691236517205) + (by4 a b c d &&& 6148914691236517205) = by4 (t1 a) (t1 b) (t1 c) (t1 d) := by
  unfold by4 t1
  rw [land_1 a _ _ 24019198012642645 ha (by omega), land_1 b _ _ 93824992236885 hb (by omega), land_1 c _ _ 366503875925 hc (by omega), land_0 a _ _ 85 24019198012642645 ha (by omega) (by omega), land_0 b _ _ 85 93824992236885 hb (by omega) (by omega), land_0 c _ _ 85 366503875925 hc (by omega) (by omega)]
  have e1 := land_1 d 0 366503875925 1431655765 hd (by omega)
  have e2 := land_0 d 0 366503875925 85 1431655765 hd (by omega) (by omega)
  simp only [Nat.mul_zero, Nat.add_zero, Nat.zero_div, Nat.zero_and] at e1 e2
  rw [e1, e2]
  omega
theorem st2 (a b c d : Nat) (ha : a < 256) (hb : b < 256) (hc : c < 256) (hd : d < 256) : (by4 a b c d / 4 &&& 3689348814741910323) + (by4 a b c d &&& 3689348814741910323) = by4 (t2 a) (t2 b) (t2 c) (t2 d) := by
  unfold by4 t2
  rw [land_2 a _ _ 14411518807585587 ha (by omega), land_2 b _ _ 56294995342131 hb (by omega), land_2 c _ _ 219902325555 hc (by omega), land_0 a _ _ 51 14411518807585587 ha (by omega) (by omega), land_0 b _ _ 51 56294995342131 hb (by omega) (by omega), land_0 c _ _ 51 219902325555 hc (by omega) (by omega)]
  have e1 := land_2 d 0 219902325555 858993459 hd (by omega)
  have e2 := land_0 d 0 219902325555 51 858993459 hd (by omega) (by omega)
  simp only [Nat.mul_zero, Nat.add_zero, Nat.zero_div, Nat.zero_and] at e1 e2
  rw [e1, e2]
  omega
theorem st3 (a b c d : Nat) (ha : a % 16 ≤ 4 ∧ a / 16 ≤ 4) (hb : b % 16 ≤ 4 ∧ b / 16 ≤ 4) (hc : c % 16 ≤ 4 ∧ c / 16 ≤ 4) (hd : d % 16 ≤ 4 ∧ d / 16 ≤ 4) :
    (by4 a b c d / 16 + by4 a b c d) &&& 1085102592571150095 = by4 (a % 16 + a / 16) (b % 16 + b / 16) (c % 16 + c / 16) (d % 16 + d / 16) := by
  have e : by4 a b c d / 16 + by4 a b c d = (a + a / 16 + 16 * (b % 16)) + 256 * ((b + b / 16 + 16 * (c % 16)) + 256 * ((c + c / 16 + 16 * (d % 16)) + 256 * (d + d / 16))) := by unfold by4; omega
  rw [e, land_0 _ _ _ 15 4238682002231055 (by omega) (by omega) (by omega), land_0 _ _ _ 15 16557351571215 (by omega) (by omega) (by omega), land_0 _ _ _ 15 64677154575 (by omega) (by omega) (by omega)]
  have e2 := land_0 (d + d / 16) 0 64677154575 15 252645135 (by omega) (by omega) (by omega)
  simp only [Nat.mul_zero, Nat.add_zero, Nat.zero_and] at e2
  rw [e2, and15, and15, and15, and15]
  have m0 : (a + a / 16 + 16 * (b % 16)) % 16 = a % 16 + a / 16 := by omega
  have m1 : (b + b / 16 + 16 * (c % 16)) % 16 = b % 16 + b / 16 := by omega
  have m2 : (c + c / 16 + 16 * (d % 16)) % 16 = c % 16 + c / 16 := by omega
  have m3 : (d + d / 16) % 16 = d % 16 + d / 16 := by omega
  rw [m0, m1, m2, m3]

/-- What the program works out. -/
def onesI (x : Int) : Int :=
  let a := IntKind.u64.wrap (bits .and .u64 (x / 2) 6148914691236517205 + bits .and .u64 x 6148914691236517205)
  let b := IntKind.u64.wrap (bits .and .u64 (a / 4) 3689348814741910323 + bits .and .u64 a 3689348814741910323)
  let c := bits .and .u64 (IntKind.u64.wrap (b / 16 + b)) 1085102592571150095
  let d := IntKind.u64.wrap (c + c / 256)
  let e := IntKind.u64.wrap (d + d / 65536)
  let f := IntKind.u64.wrap (e + e / 4294967296)
  bits .and .i64 (wrap64 f) 127

theorem ones_at (a b c d : Nat) (ha : a < 256) (hb : b < 256) (hc : c < 256) (hd : d < 256) : onesI ((by4 a b c d : Nat) : Int) = ((pop a + pop b + pop c + pop d : Nat) : Int) := by
  obtain ⟨a1, a2, a3, -⟩ := byte_ok a ha
  obtain ⟨b1, b2, b3, -⟩ := byte_ok b hb
  obtain ⟨c1, c2, c3, -⟩ := byte_ok c hc
  obtain ⟨d1, d2, d3, -⟩ := byte_ok d hd
  have s1 := st1 a b c d ha hb hc hd
  have s2 := st2 _ _ _ _ a1 b1 c1 d1
  have s3 := st3 _ _ _ _ ⟨a2, a3⟩ ⟨b2, b3⟩ ⟨c2, c3⟩ ⟨d2, d3⟩
  have hX : by4 a b c d < 4294967296 := by unfold by4; omega
  have hA : by4 (t1 a) (t1 b) (t1 c) (t1 d) < 4294967296 := by unfold by4; omega
  have hB : by4 (t2 (t1 a)) (t2 (t1 b)) (t2 (t1 c)) (t2 (t1 d)) < 4294967296 := by unfold by4; omega
  unfold pop
  generalize t2 (t1 a) = a' at *
  generalize t2 (t1 b) = b' at *
  generalize t2 (t1 c) = c' at *
  generalize t2 (t1 d) = d' at *
  generalize by4 (t1 a) (t1 b) (t1 c) (t1 d) = A at *
  generalize by4 a' b' c' d' = B at *
  generalize by4 a b c d = X at *
  have q1 : IntKind.u64.wrap (bits .and .u64 ((X : Int) / 2) 6148914691236517205 + bits .and .u64 (X : Int) 6148914691236517205) = (A : Int) := by
    have h1 := bits_and_nat (X / 2) 6148914691236517205 (by omega) (by omega)
    have h2 := bits_and_nat X 6148914691236517205 (by omega) (by omega)
    have e1 : ((X / 2 : Nat) : Int) = (X : Int) / 2 := by omega
    rw [e1] at h1
    rw [show bits .and .u64 ((X : Int) / 2) 6148914691236517205 = _ from h1, show bits .and .u64 (X : Int) 6148914691236517205 = _ from h2, ← Int.natCast_add, s1, wrap_nat _ (by omega)]
  have q2 : IntKind.u64.wrap (bits .and .u64 ((A : Int) / 4) 3689348814741910323 + bits .and .u64 (A : Int) 3689348814741910323) = (B : Int) := by
    have h1 := bits_and_nat (A / 4) 3689348814741910323 (by omega) (by omega)
    have h2 := bits_and_nat A 3689348814741910323 (by omega) (by omega)
    have e1 : ((A / 4 : Nat) : Int) = (A : Int) / 4 := by omega
    rw [e1] at h1
    rw [show bits .and .u64 ((A : Int) / 4) 3689348814741910323 = _ from h1, show bits .and .u64 (A : Int) 3689348814741910323 = _ from h2, ← Int.natCast_add, s2, wrap_nat _ (by omega)]
  have q3 : bits .and .u64 (IntKind.u64.wrap ((B : Int) / 16 + (B : Int))) 1085102592571150095 = ((by4 (a' % 16 + a' / 16) (b' % 16 + b' / 16) (c' % 16 + c' / 16) (d' % 16 + d' / 16) : Nat) : Int) := by
    have e1 : (B : Int) / 16 + (B : Int) = ((B / 16 + B : Nat) : Int) := by omega
    rw [e1, wrap_nat _ (by omega)]
    have h1 := bits_and_nat (B / 16 + B) 1085102592571150095 (by omega) (by omega)
    rw [show bits .and .u64 ((B / 16 + B : Nat) : Int) 1085102592571150095 = _ from h1, s3]
  simp only [onesI]
  rw [q1, q2, q3]
  clear q1 q2 q3 s1 s2 s3
  obtain ⟨p0, h0⟩ : ∃ p, p = a' % 16 + a' / 16 := ⟨_, rfl⟩
  obtain ⟨p1, h1⟩ : ∃ p, p = b' % 16 + b' / 16 := ⟨_, rfl⟩
  obtain ⟨p2, h2⟩ : ∃ p, p = c' % 16 + c' / 16 := ⟨_, rfl⟩
  obtain ⟨p3, h3⟩ : ∃ p, p = d' % 16 + d' / 16 := ⟨_, rfl⟩
  have k0 : p0 ≤ 8 := by omega
  have k1 : p1 ≤ 8 := by omega
  have k2 : p2 ≤ 8 := by omega
  have k3 : p3 ≤ 8 := by omega
  rw [← h0, ← h1, ← h2, ← h3]
  clear h0 h1 h2 h3 a2 a3 b2 b3 c2 c3 d2 d3 hX hA hB a1 b1 c1 d1
  have f1 : ((by4 p0 p1 p2 p3 : Nat) : Int) + ((by4 p0 p1 p2 p3 : Nat) : Int) / 256 = (((p0 + p1) + 256 * ((p1 + p2) + 256 * ((p2 + p3) + 256 * p3)) : Nat) : Int) := by
    unfold by4
    have : (p0 + 256 * (p1 + 256 * (p2 + 256 * p3))) / 256 = p1 + 256 * (p2 + 256 * p3) := by omega
    omega
  rw [f1, wrap_nat _ (by omega)]
  have f2 : (((p0 + p1) + 256 * ((p1 + p2) + 256 * ((p2 + p3) + 256 * p3)) : Nat) : Int) + (((p0 + p1) + 256 * ((p1 + p2) + 256 * ((p2 + p3) + 256 * p3)) : Nat) : Int) / 65536 = (((p0 + p1 + p2 + p3) + 256 * ((p1 + p2 + p3) + 256 * ((p2 + p3) + 256 * p3)) : Nat) : Int) := by
    have : ((p0 + p1) + 256 * ((p1 + p2) + 256 * ((p2 + p3) + 256 * p3))) / 65536 = (p2 + p3) + 256 * p3 := by omega
    omega
  rw [f2, wrap_nat _ (by omega)]
  have f3 : (((p0 + p1 + p2 + p3) + 256 * ((p1 + p2 + p3) + 256 * ((p2 + p3) + 256 * p3)) : Nat) : Int) + (((p0 + p1 + p2 + p3) + 256 * ((p1 + p2 + p3) + 256 * ((p2 + p3) + 256 * p3)) : Nat) : Int) / 4294967296 = (((p0 + p1 + p2 + p3) + 256 * ((p1 + p2 + p3) + 256 * ((p2 + p3) + 256 * p3)) : Nat) : Int) := by omega
  rw [f3, wrap_nat _ (by omega), wrap64_nat _ (by omega), and_i64 _ (by omega)]
  omega

set_option maxHeartbeats 1000000 in
theorem ones_any (S : BitVec 64) (w : World) : Calls Tryz.prog 75 #[bv S] w fun e w' => e = .returned (.int .i64 (onesI (S.toNat : Int))) ∧ w' = w := by
  have hsgn := sgnU
  go_enter Tryz.func75, Tryz.ntmps75
  go_wp2
  go_ret
  exact ⟨ret_i64 rfl, rfl⟩
set_option maxHeartbeats 1000000 in
theorem wsize_any (S : BitVec 64) (w : World) : Calls Tryz.prog 34 #[bv S] w fun e w' => e = .returned (.int .i64 (onesI (S.toNat : Int))) ∧ w' = w := by
  go_enter Tryz.func34, Tryz.ntmps34
  go_wp2_with fail
  refine (ones_any S w).mono ?_
  rintro e w' ⟨rfl, rfl⟩
  go_wp2_with fail
  go_ret
  exact ⟨rfl, rfl⟩

theorem allS_bits : ∀ j : Fin 64, (4294967295#64).getLsbD j.val = decide (j.val < 32) := by decide +kernel
/-- A set of worlds of five atoms and its complement have 32 worlds together. -/
theorem ones_both (A : BitVec 64) (hA : A &&& allS 5 = A) : onesI (A.toNat : Int) + onesI ((allS 5 &&& ~~~A).toNat : Int) = 32 ∧ 0 ≤ onesI (A.toNat : Int) ∧ onesI (A.toNat : Int) ≤ 32 := by
  have hall : allS 5 = 4294967295#64 := by decide +kernel
  rw [hall] at hA ⊢
  have h1 : A.toNat < 4294967296 := by
    have h := congrArg BitVec.toNat hA
    rw [BitVec.toNat_and] at h
    have := @Nat.and_le_right A.toNat (4294967295#64).toNat
    rw [h] at this
    have e : (4294967295#64).toNat = 4294967295 := rfl
    omega
  have h2 : (4294967295#64 &&& ~~~A).toNat = 4294967295 - A.toNat := by
    have e : 4294967295#64 &&& ~~~A = BitVec.ofNat 64 (2 ^ 32 - (A.toNat + 1)) := set_ext fun j hj => by
      have hr : (BitVec.ofNat 64 (2 ^ 32 - (A.toNat + 1))).getLsbD j = (decide (j < 64) && (decide (j < 32) && !A.toNat.testBit j)) := by rw [BitVec.getLsbD_ofNat, Nat.testBit_two_pow_sub_succ (by omega)]
      rw [hr, BitVec.getLsbD_and, BitVec.getLsbD_not, show (4294967295#64).getLsbD j = decide (j < 32) from allS_bits ⟨j, hj⟩, BitVec.testBit_toNat, decide_eq_true hj]
      cases decide (j < 32) <;> simp
    rw [e, BitVec.toNat_ofNat]
    omega
  have e1 : A.toNat = by4 (A.toNat % 256) (A.toNat / 256 % 256) (A.toNat / 65536 % 256) (A.toNat / 16777216) := by unfold by4; omega
  have e2 : 4294967295 - A.toNat = by4 (255 - A.toNat % 256) (255 - A.toNat / 256 % 256) (255 - A.toNat / 65536 % 256) (255 - A.toNat / 16777216) := by unfold by4; omega
  have k0 : A.toNat % 256 < 256 := by omega
  have k1 : A.toNat / 256 % 256 < 256 := by omega
  have k2 : A.toNat / 65536 % 256 < 256 := by omega
  have k3 : A.toNat / 16777216 < 256 := by omega
  rw [h2, e2, show onesI (A.toNat : Int) = onesI ((by4 (A.toNat % 256) (A.toNat / 256 % 256) (A.toNat / 65536 % 256) (A.toNat / 16777216) : Nat) : Int) by rw [← e1]]
  clear e1 e2 h2
  generalize A.toNat % 256 = a at *
  generalize A.toNat / 256 % 256 = b at *
  generalize A.toNat / 65536 % 256 = c at *
  generalize A.toNat / 16777216 = d at *
  rw [ones_at a b c d k0 k1 k2 k3, ones_at (255 - a) (255 - b) (255 - c) (255 - d) (by omega) (by omega) (by omega) (by omega)]
  have p0 := (byte_ok a k0).2.2.2
  have p1 := (byte_ok b k1).2.2.2
  have p2 := (byte_ok c k2).2.2.2
  have p3 := (byte_ok d k3).2.2.2
  omega
end Go.Proofs.YtbihnfocghcplaaGreatDoor

namespace Go.Proofs.YtbihnfocghcplaaGreatDoor
set_option linter.unusedVariables false
set_option linter.unusedSimpArgs false
open Go Go.RowKit

/-- Bytes, the lowest first. -/
def byL : List Nat → Nat
  | [] => 0
  | a :: l => a + 256 * byL l
/-- One byte, n times. -/
def rpt (m : Nat) : Nat → Nat
  | 0 => 0
  | n + 1 => m + 256 * rpt m n

theorem st1L : ∀ l : List Nat, (∀ b ∈ l, b < 256) → (byL l / 2 &&& rpt 85 l.length) + (byL l &&& rpt 85 l.length) = byL (l.map t1)
  | [], _ => by simp [byL, rpt]
  | a :: l, h => by
    have ih := st1L l fun b hb => h b (by simp [hb])
    have ha := h a (by simp)
    simp only [byL, List.length_cons, rpt, List.map_cons]
    rw [land_1 a _ _ (rpt 85 l.length) ha rfl, land_0 a _ _ 85 (rpt 85 l.length) ha rfl (by omega), ← ih]
    unfold t1
    omega
theorem st2L : ∀ l : List Nat, (∀ b ∈ l, b < 256) → (byL l / 4 &&& rpt 51 l.length) + (byL l &&& rpt 51 l.length) = byL (l.map t2)
  | [], _ => by simp [byL, rpt]
  | a :: l, h => by
    have ih := st2L l fun b hb => h b (by simp [hb])
    have ha := h a (by simp)
    simp only [byL, List.length_cons, rpt, List.map_cons]
    rw [land_2 a _ _ (rpt 51 l.length) ha rfl, land_0 a _ _ 51 (rpt 51 l.length) ha rfl (by omega), ← ih]
    unfold t2
    omega
def nib (a : Nat) : Nat := a % 16 + a / 16
theorem byL_low : ∀ l : List Nat, (∀ b ∈ l, b % 16 ≤ 4 ∧ b / 16 ≤ 4) → byL l % 16 ≤ 4
  | [], _ => by simp [byL]
  | a :: l, h => by
    have ha := h a (by simp)
    simp only [byL]
    omega
theorem st3L : ∀ l : List Nat, (∀ b ∈ l, b % 16 ≤ 4 ∧ b / 16 ≤ 4) → (byL l / 16 + byL l) &&& rpt 15 l.length = byL (l.map nib)
  | [], _ => by simp [byL, rpt]
  | a :: l, h => by
    have h' : ∀ b ∈ l, b % 16 ≤ 4 ∧ b / 16 ≤ 4 := fun b hb => h b (by simp [hb])
    have ih := st3L l h'
    have hl := byL_low l h'
    have ha := h a (by simp)
    simp only [byL, List.length_cons, rpt, List.map_cons]
    have e : (a + 256 * byL l) / 16 + (a + 256 * byL l) = (a + a / 16 + 16 * (byL l % 16)) + 256 * (byL l / 16 + byL l) := by omega
    rw [e, land_0 _ _ _ 15 (rpt 15 l.length) (by omega) rfl (by omega), ih, and15]
    unfold nib
    omega

theorem byL_lt : ∀ l : List Nat, (∀ b ∈ l, b < 256) → byL l < 256 ^ l.length
  | [], _ => by simp [byL]
  | a :: l, h => by
    have ih := byL_lt l fun b hb => h b (by simp [hb])
    have ha := h a (by simp)
    simp only [byL, List.length_cons, Nat.pow_succ]
    omega
theorem byL_le (m : Nat) : ∀ l : List Nat, (∀ b ∈ l, b ≤ m) → byL l ≤ rpt m l.length
  | [], _ => by simp [byL, rpt]
  | a :: l, h => by
    have ih := byL_le m l fun b hb => h b (by simp [hb])
    have ha := h a (by simp)
    simp only [byL, List.length_cons, rpt]
    omega

/-- The number's bits among the first n. -/
def cntN (x n : Nat) : Nat := (List.range n).countP fun j => x.testBit j
theorem cntN_byte (a R n : Nat) (ha : a < 256) : cntN (a + 256 * R) (8 + n) = cntN a 8 + cntN R n := by
  unfold cntN
  rw [List.range_add, List.countP_append, List.countP_map]
  have e : a + 256 * R = 2 ^ 8 * R + a := by omega
  congr 1
  · refine List.countP_congr fun j hj => ?_
    rw [List.mem_range] at hj
    rw [e, Nat.testBit_two_pow_mul_add R (by omega)]
    simp [hj]
  · refine List.countP_congr fun j hj => ?_
    simp only [Function.comp]
    rw [e, Nat.testBit_two_pow_mul_add R (by omega)]
    simp
    intro h
    omega
theorem pop_F : ∀ b : Fin 256, pop b.val = cntN b.val 8 := by decide +kernel
theorem cnt_byL : ∀ l : List Nat, (∀ b ∈ l, b < 256) → cntN (byL l) (8 * l.length) = (l.map pop).sum
  | [], _ => by simp [cntN]
  | a :: l, h => by
    have ih := cnt_byL l fun b hb => h b (by simp [hb])
    have ha := h a (by simp)
    simp only [byL, List.length_cons, List.map_cons, List.sum_cons]
    rw [show 8 * (l.length + 1) = 8 + 8 * l.length by omega, cntN_byte a _ _ ha, ih]
    congr 1
    exact (pop_F ⟨a, ha⟩).symm

theorem byL_bytes (x : Nat) (hx : x < 18446744073709551616) : ∃ a b c d e f g h : Nat, (∀ y ∈ [a, b, c, d, e, f, g, h], y < 256) ∧ x = byL [a, b, c, d, e, f, g, h] := by
  refine ⟨x % 256, x / 256 % 256, x / 65536 % 256, x / 16777216 % 256, x / 4294967296 % 256, x / 1099511627776 % 256, x / 281474976710656 % 256, x / 72057594037927936, ?_, ?_⟩
  · intro y hy
    simp only [List.mem_cons, List.not_mem_nil, or_false] at hy
    omega
  · simp only [byL]
    omega

theorem byL_div (a : Nat) (l : List Nat) (h : a < 256) : byL (a :: l) / 256 = byL l := by
  simp only [byL]
  omega
theorem byL_div2 (a b : Nat) (l : List Nat) (h : a < 256) (h' : b < 256) : byL (a :: b :: l) / 65536 = byL l := by
  rw [show 65536 = 256 * 256 from rfl, ← Nat.div_div_eq_div_mul, byL_div a _ h, byL_div b _ h']
theorem byL_div4 (a b c d : Nat) (l : List Nat) (h : a < 256) (h' : b < 256) (h2 : c < 256) (h3 : d < 256) : byL (a :: b :: c :: d :: l) / 4294967296 = byL l := by
  rw [show 4294967296 = 65536 * 65536 from rfl, ← Nat.div_div_eq_div_mul, byL_div2 a b _ h h', byL_div2 c d _ h2 h3]
theorem byL_small (m : Nat) (l : List Nat) (hm : m ≤ 64) (hl : l.length = 8) (h : ∀ b ∈ l, b ≤ m) : byL l ≤ 4629771061636907072 := by
  have h1 := byL_le 64 l fun b hb => Nat.le_trans (h b hb) hm
  rw [hl] at h1
  have : rpt 64 8 = 4629771061636907072 := by decide
  omega
end Go.Proofs.YtbihnfocghcplaaGreatDoor

namespace Go.Proofs.YtbihnfocghcplaaGreatDoor
set_option linter.unusedVariables false
set_option linter.unusedSimpArgs false
open Go Go.RowKit

theorem ones_all (x : Nat) (hx : x < 18446744073709551616) : onesI (x : Int) = ((cntN x 64 : Nat) : Int) := by
  obtain ⟨a, b, c, d, e, f, g, h, hl, rfl⟩ := byL_bytes x hx
  generalize hL : [a, b, c, d, e, f, g, h] = L at *
  have hlen : L.length = 8 := by rw [← hL]; rfl
  have hc := cnt_byL L hl
  have s1 := st1L L hl
  have hl1 : ∀ y ∈ L.map t1, y < 256 := fun y hy => by
    obtain ⟨z, hz, rfl⟩ := List.mem_map.1 hy
    exact (byte_ok z (hl z hz)).1
  have s2 := st2L (L.map t1) hl1
  have hl2 : ∀ y ∈ (L.map t1).map t2, y % 16 ≤ 4 ∧ y / 16 ≤ 4 := fun y hy => by
    obtain ⟨z, hz, rfl⟩ := List.mem_map.1 hy
    obtain ⟨u, hu, rfl⟩ := List.mem_map.1 hz
    exact ⟨(byte_ok u (hl u hu)).2.1, (byte_ok u (hl u hu)).2.2.1⟩
  have s3 := st3L ((L.map t1).map t2) hl2
  have hl2' : ∀ y ∈ (L.map t1).map t2, y < 256 := fun y hy => by have := hl2 y hy; omega
  have hA : byL (L.map t1) < 18446744073709551616 := by
    have := byL_lt _ hl1
    rw [List.length_map, hlen] at this
    exact this
  have hB : byL ((L.map t1).map t2) ≤ rpt 68 8 := by
    have := byL_le 68 _ (fun y hy => by have := hl2 y hy; omega : ∀ y ∈ (L.map t1).map t2, y ≤ 68)
    rw [List.length_map, List.length_map, hlen] at this
    exact this
  have hB' : rpt 68 8 = 4919131752989213764 := by decide
  rw [hB'] at hB
  simp only [List.length_map, hlen] at s1 s2 s3 hc
  have r85 : rpt 85 8 = 6148914691236517205 := by decide
  have r51 : rpt 51 8 = 3689348814741910323 := by decide
  have r15 : rpt 15 8 = 1085102592571150095 := by decide
  rw [r85] at s1
  rw [r51] at s2
  rw [r15] at s3
  have hp : ((L.map t1).map t2).map nib = L.map pop := by
    rw [List.map_map, List.map_map]
    rfl
  rw [hp] at s3
  have h8 : ∀ y ∈ L.map pop, y ≤ 8 := fun y hy => by
    obtain ⟨z, hz, rfl⟩ := List.mem_map.1 hy
    have := (byte_ok z (hl z hz)).2
    unfold pop
    omega
  rw [show 8 * 8 = 64 from rfl] at hc
  rw [hc]
  have q1 : IntKind.u64.wrap (bits .and .u64 ((byL L : Int) / 2) 6148914691236517205 + bits .and .u64 (byL L : Int) 6148914691236517205) = (byL (L.map t1) : Int) := by
    have h1 := bits_and_nat (byL L / 2) 6148914691236517205 (by omega) (by omega)
    have h2 := bits_and_nat (byL L) 6148914691236517205 (by omega) (by omega)
    have e1 : ((byL L / 2 : Nat) : Int) = (byL L : Int) / 2 := by omega
    rw [e1] at h1
    rw [show bits .and .u64 ((byL L : Int) / 2) 6148914691236517205 = _ from h1, show bits .and .u64 (byL L : Int) 6148914691236517205 = _ from h2, ← Int.natCast_add, s1, wrap_nat _ hA]
  generalize byL (L.map t1) = A at *
  have q2 : IntKind.u64.wrap (bits .and .u64 ((A : Int) / 4) 3689348814741910323 + bits .and .u64 (A : Int) 3689348814741910323) = (byL ((L.map t1).map t2) : Int) := by
    have h1 := bits_and_nat (A / 4) 3689348814741910323 (by omega) (by omega)
    have h2 := bits_and_nat A 3689348814741910323 (by omega) (by omega)
    have e1 : ((A / 4 : Nat) : Int) = (A : Int) / 4 := by omega
    rw [e1] at h1
    rw [show bits .and .u64 ((A : Int) / 4) 3689348814741910323 = _ from h1, show bits .and .u64 (A : Int) 3689348814741910323 = _ from h2, ← Int.natCast_add, s2, wrap_nat _ (by omega)]
  generalize byL ((L.map t1).map t2) = B at *
  have q3 : bits .and .u64 (IntKind.u64.wrap ((B : Int) / 16 + (B : Int))) 1085102592571150095 = ((byL (L.map pop) : Nat) : Int) := by
    have e1 : (B : Int) / 16 + (B : Int) = ((B / 16 + B : Nat) : Int) := by omega
    rw [e1, wrap_nat _ (by omega)]
    have h1 := bits_and_nat (B / 16 + B) 1085102592571150095 (by omega) (by omega)
    rw [show bits .and .u64 ((B / 16 + B : Nat) : Int) 1085102592571150095 = _ from h1, s3]
  simp only [onesI]
  rw [q1, q2, q3]
  clear q1 q2 q3 s1 s2 s3 hc hA hB hB' r85 r51 r15 hp hl1 hl2 hl2' hlen
  subst hL
  simp only [List.map_cons, List.map_nil, List.mem_cons, List.not_mem_nil, or_false, forall_eq_or_imp, forall_eq] at h8
  simp only [List.map_cons, List.map_nil, List.sum_cons, List.sum_nil, Nat.add_zero]
  obtain ⟨k0, k1, k2, k3, k4, k5, k6, k7⟩ := h8
  generalize pop a = p0 at *
  generalize pop b = p1 at *
  generalize pop c = p2 at *
  generalize pop d = p3 at *
  generalize pop e = p4 at *
  generalize pop f = p5 at *
  generalize pop g = p6 at *
  generalize pop h = p7 at *
  clear hl hx
  have g1 : byL [p0, p1, p2, p3, p4, p5, p6, p7] + byL [p1, p2, p3, p4, p5, p6, p7] = byL [p0 + p1, p1 + p2, p2 + p3, p3 + p4, p4 + p5, p5 + p6, p6 + p7, p7] := by
    simp only [byL, Nat.mul_zero, Nat.add_zero]
    omega
  have g2 : byL [p0 + p1, p1 + p2, p2 + p3, p3 + p4, p4 + p5, p5 + p6, p6 + p7, p7] + byL [p2 + p3, p3 + p4, p4 + p5, p5 + p6, p6 + p7, p7] = byL [p0 + p1 + (p2 + p3), p1 + p2 + (p3 + p4), p2 + p3 + (p4 + p5), p3 + p4 + (p5 + p6), p4 + p5 + (p6 + p7), p5 + p6 + p7, p6 + p7, p7] := by
    simp only [byL, Nat.mul_zero, Nat.add_zero]
    omega
  have g3 : byL [p0 + p1 + (p2 + p3), p1 + p2 + (p3 + p4), p2 + p3 + (p4 + p5), p3 + p4 + (p5 + p6), p4 + p5 + (p6 + p7), p5 + p6 + p7, p6 + p7, p7] + byL [p4 + p5 + (p6 + p7), p5 + p6 + p7, p6 + p7, p7] = byL [p0 + p1 + (p2 + p3) + (p4 + p5 + (p6 + p7)), p1 + p2 + (p3 + p4) + (p5 + p6 + p7), p2 + p3 + (p4 + p5) + (p6 + p7), p3 + p4 + (p5 + p6) + p7, p4 + p5 + (p6 + p7), p5 + p6 + p7, p6 + p7, p7] := by
    simp only [byL, Nat.mul_zero, Nat.add_zero]
    omega
  have b1 := byL_small 16 [p0 + p1, p1 + p2, p2 + p3, p3 + p4, p4 + p5, p5 + p6, p6 + p7, p7] (by omega) rfl (by
    intro y hy
    simp only [List.mem_cons, List.not_mem_nil, or_false] at hy
    omega)
  have b2 := byL_small 32 [p0 + p1 + (p2 + p3), p1 + p2 + (p3 + p4), p2 + p3 + (p4 + p5), p3 + p4 + (p5 + p6), p4 + p5 + (p6 + p7), p5 + p6 + p7, p6 + p7, p7] (by omega) rfl (by
    intro y hy
    simp only [List.mem_cons, List.not_mem_nil, or_false] at hy
    omega)
  have b3 := byL_small 64 [p0 + p1 + (p2 + p3) + (p4 + p5 + (p6 + p7)), p1 + p2 + (p3 + p4) + (p5 + p6 + p7), p2 + p3 + (p4 + p5) + (p6 + p7), p3 + p4 + (p5 + p6) + p7, p4 + p5 + (p6 + p7), p5 + p6 + p7, p6 + p7, p7] (by omega) rfl (by
    intro y hy
    simp only [List.mem_cons, List.not_mem_nil, or_false] at hy
    omega)
  have d1 := byL_div p0 [p1, p2, p3, p4, p5, p6, p7] (by omega)
  have d2 := byL_div2 (p0 + p1) (p1 + p2) [p2 + p3, p3 + p4, p4 + p5, p5 + p6, p6 + p7, p7] (by omega) (by omega)
  have d3 := byL_div4 (p0 + p1 + (p2 + p3)) (p1 + p2 + (p3 + p4)) (p2 + p3 + (p4 + p5)) (p3 + p4 + (p5 + p6)) [p4 + p5 + (p6 + p7), p5 + p6 + p7, p6 + p7, p7] (by omega) (by omega) (by omega) (by omega)
  have m3 : byL [p0 + p1 + (p2 + p3) + (p4 + p5 + (p6 + p7)), p1 + p2 + (p3 + p4) + (p5 + p6 + p7), p2 + p3 + (p4 + p5) + (p6 + p7), p3 + p4 + (p5 + p6) + p7, p4 + p5 + (p6 + p7), p5 + p6 + p7, p6 + p7, p7] % 128 = p0 + p1 + (p2 + p3) + (p4 + p5 + (p6 + p7)) := by
    show (p0 + p1 + (p2 + p3) + (p4 + p5 + (p6 + p7)) + 256 * byL [p1 + p2 + (p3 + p4) + (p5 + p6 + p7), p2 + p3 + (p4 + p5) + (p6 + p7), p3 + p4 + (p5 + p6) + p7, p4 + p5 + (p6 + p7), p5 + p6 + p7, p6 + p7, p7]) % 128 = _
    generalize byL [p1 + p2 + (p3 + p4) + (p5 + p6 + p7), p2 + p3 + (p4 + p5) + (p6 + p7), p3 + p4 + (p5 + p6) + p7, p4 + p5 + (p6 + p7), p5 + p6 + p7, p6 + p7, p7] = R
    omega
  rw [d1.symm] at g1
  rw [d2.symm] at g2
  rw [d3.symm] at g3
  generalize byL [p0, p1, p2, p3, p4, p5, p6, p7] = C at *
  generalize byL [p0 + p1, p1 + p2, p2 + p3, p3 + p4, p4 + p5, p5 + p6, p6 + p7, p7] = D at *
  generalize byL [p0 + p1 + (p2 + p3), p1 + p2 + (p3 + p4), p2 + p3 + (p4 + p5), p3 + p4 + (p5 + p6), p4 + p5 + (p6 + p7), p5 + p6 + p7, p6 + p7, p7] = E at *
  generalize byL [p0 + p1 + (p2 + p3) + (p4 + p5 + (p6 + p7)), p1 + p2 + (p3 + p4) + (p5 + p6 + p7), p2 + p3 + (p4 + p5) + (p6 + p7), p3 + p4 + (p5 + p6) + p7, p4 + p5 + (p6 + p7), p5 + p6 + p7, p6 + p7, p7] = G at *
  have f1 : (C : Int) + (C : Int) / 256 = (D : Int) := by omega
  rw [f1, wrap_nat _ (by omega)]
  have f2 : (D : Int) + (D : Int) / 65536 = (E : Int) := by omega
  rw [f2, wrap_nat _ (by omega)]
  have f3 : (E : Int) + (E : Int) / 4294967296 = (G : Int) := by omega
  rw [f3, wrap_nat _ (by omega), wrap64_nat _ (by omega), and_i64 _ (by omega), m3]
  omega
end Go.Proofs.YtbihnfocghcplaaGreatDoor

namespace Go.Proofs.YtbihnfocghcplaaGreatDoor
set_option linter.unusedVariables false
set_option linter.unusedSimpArgs false
open Go Go.RowKit

theorem infoInt : (Tryz.prog.info? 3).map (fun i => (i.zero, i.size, i.bytes)) = some (some (.int .i64 0), 1, 8) := by kernel_rfl

/-- The value is a list of numbers that the call owns, from block B on. -/
def OwnI (w : World) (B : Nat) (v : Value) (l : List Int) : Prop := w.ownsRow B 3 1 v l.length (l.map (Value.int .i64))
section
variable {w w' : World} {B : Nat} {v : Value} {l : List Int}
theorem OwnI.block (h : OwnI w B v l) : ∀ g, v.ownBlock = some g → B ≤ g ∧ g < w.heap.size := World.ownsRow.lt h
theorem OwnI.nil (w : World) (B : Nat) : OwnI w B (.slice none 0 0) [] := World.ownsRow_nil w B _ _
theorem OwnI.kept {row : Option Nat} (h : OwnI w B v l) (hg : w.grownBy w' row) (hr : ∀ g, row = some g → g < B) : OwnI w' B v l := by
  refine World.ownsRow.kept h hg ?_
  cases hv : v.ownBlock with
  | none => exact .inl rfl
  | some g =>
    refine .inr (fun e => ?_)
    have h2 := (h.block g hv).1
    have h3 := hr g e.symm
    omega
theorem OwnI.go (h : OwnI w B v l) (hb : Below w.heap.size w w') : OwnI w' B v l := h.kept (only_of_below hb none) (fun g e => by cases e)
theorem OwnI.alloc (h : OwnI w B v l) (o : Obj) : OwnI (w.alloc o) B v l := h.go ((Below.refl _ _).alloc (Nat.le_refl _) o)
end

/-- A list of numbers. -/
def IntsRow (w : World) (v : Value) (l : List Int) : Prop := ∃ (a : Option Addr) (c b off : Nat), v = .slice a l.length c ∧ (0 < l.length → a = some ⟨b, off, none⟩) ∧ ∀ i (h : i < l.length), w.cell? ⟨b, off + i, none⟩ = some (.int .i64 l[i])
theorem IntsRow.go {w w' : World} {v : Value} {l : List Int} (h : IntsRow w v l) (hb : Below w.heap.size w w') : IntsRow w' v l := by
  obtain ⟨a, c, b, off, h1, h2, h3⟩ := h
  exact ⟨a, c, b, off, h1, h2, fun i hi => (hb.cell (p := ⟨b, off + i, none⟩) (World.block_lt_of_cell? w ⟨b, off + i, none⟩ (h3 i hi))).trans (h3 i hi)⟩
theorem OwnI.row {w : World} {B : Nat} {v : Value} {l : List Int} (h : OwnI w B v l) : IntsRow w v l := by
  rcases h.2 with ⟨rfl, h0⟩ | ⟨g, cap, cur, rfl, hB, hg, hnc, hcm, hcs, htake⟩
  · obtain rfl : l = [] := List.eq_nil_of_length_eq_zero h0
    exact ⟨none, 0, 0, 0, rfl, fun h => by simp at h, fun i h => by simp at h⟩
  · refine ⟨_, cap, g, 0, rfl, fun _ => rfl, fun i hi => ?_⟩
    have := World.ownsRow.cells h (g := g) rfl i (.int .i64 l[i]) (by simp [List.getElem?_eq_getElem hi])
    have e : (⟨g, 0, none⟩ : Addr).add i = ⟨g, 0 + i, none⟩ := by unfold Addr.add; split <;> simp_all
    rwa [e] at this

/-- append of one number, which lies in a row of its own. -/
theorem wpList_append_int {w : World} {ops : Array Oper} {rest : List Oper} {o : Oper} {a : Act} {Q : Exit → Act → World → Prop} (hgd : o.guard = none) (s x : Operand)
    (ho : o.op = .call { callee := .builtin .append, args := #[s, x], argTypes := #[26, 26] }) (B : Nat) (v : Value) (l : List Int) (hs : a.eval s = v) (hown : OwnI w B v l)
    (m c1 : Nat) (hx : a.eval x = .slice (some ⟨m, 0, none⟩) 1 c1) {t : Int} {ty : TypeId} (hm : w.heap[m]? = some (.cells #[.int .i64 t] ty (0, 0))) (hlen : l.length ≤ 1000000) (hB : B ≤ w.heap.size)
    (h : ∀ v' w', OwnI w' B v' (l ++ [t]) → w.grownBy w' v.ownBlock → wpList Tryz.prog ops Q rest (a.put o.dst v') w') : wpList Tryz.prog ops Q (o :: rest) a w := by
  obtain ⟨i0, hi, hz0, hz1, hz2⟩ := info_parts infoInt
  refine wpList_append_own w hgd s x 26 ho B 3 i0 _ 1 8 Tryz.underlying26 hi hz0 hz1 hz2 rfl (by decide) v l.length _ hs hown ⟨m, 0, none⟩ 1 c1 [.int .i64 t] hx rfl ?_ (fun u hu => by rw [List.mem_singleton.1 hu]; rfl) (by unfold maxLen; omega) (by omega) hB (fun v' w' h2 h3 _ => ?_)
  · intro j u hj
    match j, hj with
    | 0, hj =>
      simp only [List.getElem?_cons_zero, Option.some.injEq] at hj
      rw [← hj]
      have e : (⟨m, 0, none⟩ : Addr).add 0 = ⟨m, 0, none⟩ := rfl
      rw [e]
      exact cell_one0 hm
    | j + 1, hj => simp at hj
  · refine h v' w' ?_ h3
    unfold OwnI
    rw [List.map_append, List.length_append]
    exact h2

set_option maxRecDepth 100000 in
set_option maxHeartbeats 1000000 in
theorem kints_true (l : List Int) (va vb : Value) (w : World) (ha : IntsRow w va l) (hb : IntsRow w vb l) (hlen : l.length ≤ 1000000) :
    Calls Tryz.prog 31 #[va, vb] w fun e w' => e = .returned (.bool true) ∧ Below w.heap.size w w' := by
  obtain ⟨a, c, b, off, rfl, ha1, ha2⟩ := ha
  obtain ⟨a', c', b', off', rfl, hb1, hb2⟩ := hb
  have HA := hidIt ha1
  have HB := hidIt hb1
  have HA2 := hidIt ha2
  have HB2 := hidIt hb2
  clear ha1 ha2 hb1 hb2
  have hnn : ((l.length : Int) != (l.length : Int)) = false := bne_self_eq_false _
  go_enter Tryz.func31, Tryz.ntmps31
  go_wp2_with fail
  go_loopw [13] (fun i wr => ∃ k : Nat, k ≤ l.length ∧ i = .int .i64 k ∧ Hid (∃ n, wr = w.drewN n)) (fun i _ => l.length - (intOf i).toNat)
  case atStart => exact ⟨0, Nat.zero_le _, rfl, ⟨0, rfl⟩⟩
  case round =>
    obtain ⟨k, hk, rfl, hn'⟩ := hrel
    have HBL : Hid (Below w.heap.size w wr) := by obtain ⟨n, rfl⟩ := hn'.out; exact ⟨rfl, rfl, rfl, Nat.le_refl _, fun _ _ => rfl⟩
    have HNX : Hid (∀ m, Hid (∃ n, wr.drewN m = w.drewN n)) := fun m => by obtain ⟨n, rfl⟩ := hn'.out; exact ⟨_, World.drewN_drewN _ _ _⟩
    by_cases hlt : k < l.length
    · have x0 : wr.cell? ⟨b, off + k, none⟩ = some (.int .i64 l[k]) := by obtain ⟨n, rfl⟩ := hn'.out; exact HA2.out k hlt
      have y0 : wr.cell? ⟨b', off' + k, none⟩ = some (.int .i64 l[k]) := by obtain ⟨n, rfl⟩ := hn'.out; exact HB2.out k hlt
      obtain rfl := HA.out (by omega)
      obtain rfl := HB.out (by omega)
      have hlt0 : (k : Int) < (l.length : Int) := by omega
      have hk0 : (0 : Int) ≤ (k : Int) := by omega
      have hxx : (l[k] != l[k]) = false := bne_self_eq_false _
      clear hn'
      generalize l[k] = x at *
      go_wp2_with fail
      go_quiet (fail)
      go_wp2_with fail
      go_roundw
      case rel => exact ⟨k + 1, by omega, by go_num, HNX.out _⟩
      case measure => simp [intOf]; omega
    · go_wp2_with fail
      go_ret
      exact ⟨rfl, HBL.out⟩
end Go.Proofs.YtbihnfocghcplaaGreatDoor

namespace Go.Proofs.YtbihnfocghcplaaGreatDoor
set_option linter.unusedVariables false
set_option linter.unusedSimpArgs false
open Go Go.RowKit

/-- The worlds of a set among the first k, in order. -/
def worldsN (S : BitVec 64) (k : Nat) : List Int := List.map (fun j : Nat => (j : Int)) (List.filter (fun j : Nat => S.getLsbD j) (List.range k))
theorem worldsN_on (S : BitVec 64) (k : Nat) (h : S.getLsbD k = true) : worldsN S (k + 1) = worldsN S k ++ [(k : Int)] := by simp [worldsN, List.range_succ, h]
theorem worldsN_off (S : BitVec 64) (k : Nat) (h : S.getLsbD k = false) : worldsN S (k + 1) = worldsN S k := by simp [worldsN, List.range_succ, h]
theorem worldsN_len (S : BitVec 64) (k : Nat) : (worldsN S k).length ≤ k := by
  unfold worldsN
  rw [List.length_map]
  exact Nat.le_trans (List.length_filter_le _ _) (by simp)
/-- What Worlds answers. -/
def worldsR (l : List ByteArray) (S : BitVec 64) : List Int := if vocB l = true then worldsN S (2 ^ l.length) else []

set_option maxHeartbeats 400000 in
theorem whas_any (S : BitVec 64) (k : Nat) (hk : k < 64) (w : World) :
    Calls Tryz.prog 73 #[bv S, .int .i64 (k : Int)] w fun e w' => e = .returned (.bool (S.getLsbD k)) ∧ w' = w := by
  have hS := S.isLt
  have hb := bit_shr S k
  have hk0 : (0 : Int) ≤ (k : Int) := by omega
  obtain ⟨r, hr⟩ : ∃ r, S.getLsbD k = r := ⟨_, rfl⟩
  rw [hr] at hb ⊢
  clear hr
  cases r
  · have hb' : bits .and .u64 ((S.toNat : Int) / 2 ^ k) 1 = 0 := hb
    clear hb
    go_enter Tryz.func73, Tryz.ntmps73
    go_wp2
    go_ret
    exact ⟨rfl, rfl⟩
  · have hb' : bits .and .u64 ((S.toNat : Int) / 2 ^ k) 1 = 1 := hb
    clear hb
    go_enter Tryz.func73, Tryz.ntmps73
    go_wp2
    go_ret
    exact ⟨rfl, rfl⟩

theorem pow_le64 {n : Nat} (h : n ≤ 6) : 2 ^ n ≤ 64 := by
  have := Nat.pow_le_pow_right (n := 2) (by omega) h
  omega

set_option maxRecDepth 100000 in
set_option maxHeartbeats 1000000 in
theorem r3worlds_any (l : List ByteArray) (S : BitVec 64) (a : Option Addr) (c : Nat) (hn : l.length ≤ 1000000) (w : World) (h : StrsIn w (fun _ => True) a l) :
    Calls Tryz.prog 33 #[.slice a l.length c, bv S] w fun e w' => ∃ v, e = .returned v ∧ IntsRow w' v (worldsR l S) ∧ Below w.heap.size w w' := by
  have HV := hidIt (r3valid_any l a c hn w h)
  clear h
  by_cases hv : vocB l = true
  case neg =>
    have HR : Hid (worldsR l S = []) := by show _ = _; rw [worldsR, if_neg hv]
    have hv' : vocB l = false := by simpa using hv
    rw [hv'] at HV
    clear hv hv'
    go_enter Tryz.func33, Tryz.ntmps33
    go_wp2_with fail
    refine HV.out.mono ?_
    rintro e w1 ⟨rfl, hb⟩
    go_wp2_with fail
    go_ret
    exact ⟨_, rfl, by rw [HR.out]; exact (OwnI.nil w1 0).row, hb⟩
  case pos =>
  have h6 := vocB_len hv
  have HR : Hid (worldsR l S = worldsN S (2 ^ l.length)) := by show _ = _; rw [worldsR, if_pos hv]
  rw [hv] at HV
  have HCT := hidIt (fun w => r3count_any l.length a c h6 w)
  have hp := pow_le64 h6
  obtain ⟨N, hN⟩ : ∃ N, N = 2 ^ l.length := ⟨_, rfl⟩
  rw [← hN] at HCT HR hp
  have HHAS := hidIt (fun k hk w => r3has_any S k hk w)
  have hS := S.isLt
  clear hN hv
  go_enter Tryz.func33, Tryz.ntmps33
  go_wp2_with fail
  refine HV.out.mono ?_
  rintro e w1 ⟨rfl, hb⟩
  have HB1 := hidIt hb
  clear hb HV
  go_wp2_with fail
  go_loopw [5, 6] (fun v i wr => ∃ k : Nat, k ≤ N ∧ i = .int .i64 k ∧ Hid (OwnI wr w1.heap.size v (worldsN S k)) ∧ Hid (Below w1.heap.size w1 wr)) (fun _ i _ => N - (intOf i).toNat)
  case atStart => exact ⟨0, Nat.zero_le _, rfl, (show OwnI _ _ _ (worldsN S 0) from OwnI.nil _ _), Below.refl _ _⟩
  case round =>
    obtain ⟨k, hk, rfl, hown, hbel⟩ := hrel
    by_cases hlt : k < N
    · have hlt' : (k : Int) < (N : Int) := by omega
      have HH := hidIt (HHAS.out k (by omega) wr)
      have HON := hidIt (worldsN_on S k)
      have HOFF := hidIt (worldsN_off S k)
      have HLN := hidIt (worldsN_len S k)
      cases hb : S.getLsbD k
      · rw [hb] at HH
        have HE := hidIt (HOFF.out hb)
        clear hb HON HOFF
        go_wp2_with fail
        refine (HCT.out _).mono ?_
        rintro e w' ⟨rfl, rfl⟩
        go_wp2_with fail
        refine HH.out.mono ?_
        rintro e w' ⟨rfl, rfl⟩
        go_wp2_with fail
        go_roundw
        case rel => exact ⟨k + 1, by omega, by go_num, by rw [HE.out]; exact hown, hbel⟩
        case measure => simp [intOf]; omega
      · rw [hb] at HH
        have HE := hidIt (HON.out hb)
        clear hb HON HOFF
        have HNW := hidIt (heap_alloc_new wr (.cells #[.int .i64 (k : Int)] 3))
        have HO3 := hidIt (hown.out.alloc (.cells #[.int .i64 (k : Int)] 3))
        have HBW : Hid (w1.heap.size ≤ (wr.alloc (.cells #[.int .i64 (k : Int)] 3)).heap.size) := by show _ ≤ _; have := hbel.out.size; simp; omega
        have HOB := hidIt hown.out.block
        go_wp2_with fail
        refine (HCT.out _).mono ?_
        rintro e w' ⟨rfl, rfl⟩
        go_wp2_with fail
        refine HH.out.mono ?_
        rintro e w' ⟨rfl, rfl⟩
        go_wp2_with (at_builtin; refine wpList_append_int rfl _ _ rfl w1.heap.size _ (worldsN S k) rfl HO3.out _ 1 rfl HNW.out (by have := HLN.out; omega) HBW.out ?_)
        intro v' w8 ho8 hg8
        have HO8 := hidIt ho8
        have HB8 : Hid (Below w1.heap.size w1 w8) := below_over2 hbel.out (Grows.alloc _ _) hg8 (fun g e => (HOB.out g e).1)
        clear ho8 hg8
        go_wp2_with fail
        go_roundw
        case rel => exact ⟨k + 1, by omega, by go_num, by rw [HE.out]; exact HO8, HB8⟩
        case measure => simp [intOf]; omega
    · obtain rfl : k = N := by omega
      go_wp2_with fail
      refine (HCT.out _).mono ?_
      rintro e w' ⟨rfl, rfl⟩
      go_wp2_with fail
      go_ret
      exact ⟨_, rfl, by rw [HR.out]; exact hown.out.row, HB1.out.trans (Below.mono hbel.out HB1.out.size)⟩

set_option maxRecDepth 100000 in
set_option maxHeartbeats 1000000 in
theorem wworlds_any (l : List ByteArray) (S : BitVec 64) (a : Option Addr) (c : Nat) (hn : l.length ≤ 1000000) (w : World) (h : StrsIn w (fun _ => True) a l) :
    Calls Tryz.prog 32 #[.slice a l.length c, bv S] w fun e w' => ∃ v, e = .returned v ∧ IntsRow w' v (worldsR l S) ∧ Below w.heap.size w w' := by
  have HV := hidIt (wvalid_any l a c hn w h)
  clear h
  by_cases hv : vocB l = true
  case neg =>
    have HR : Hid (worldsR l S = []) := by show _ = _; rw [worldsR, if_neg hv]
    have hv' : vocB l = false := by simpa using hv
    rw [hv'] at HV
    clear hv hv'
    go_enter Tryz.func32, Tryz.ntmps32
    go_wp2_with fail
    refine HV.out.mono ?_
    rintro e w1 ⟨rfl, rfl⟩
    go_wp2_with fail
    go_ret
    exact ⟨_, rfl, by rw [HR.out]; exact (OwnI.nil _ 0).row, Below.refl _ _⟩
  case pos =>
  have h6 := vocB_len hv
  have HR : Hid (worldsR l S = worldsN S (2 ^ l.length)) := by show _ = _; rw [worldsR, if_pos hv]
  rw [hv] at HV
  have hp := pow_le64 h6
  have hl0 : (0 : Int) ≤ (l.length : Int) := by omega
  have hpow : IntKind.i64.wrap (2 ^ l.length) = ((2 ^ l.length : Nat) : Int) := by
    have e : ((2 : Int) ^ l.length) = ((2 ^ l.length : Nat) : Int) := by rw [Int.natCast_pow]; rfl
    rw [e]
    exact IntWalk.i64_in _ (by generalize 2 ^ l.length = M at hp ⊢; omega)
  obtain ⟨N, hN⟩ : ∃ N, N = 2 ^ l.length := ⟨_, rfl⟩
  rw [← hN] at hpow HR hp
  have HHAS := hidIt (fun k hk w => whas_any S k hk w)
  have hS := S.isLt
  clear hN hv
  go_enter Tryz.func32, Tryz.ntmps32
  go_wp2_with fail
  refine HV.out.mono ?_
  rintro e w1 ⟨rfl, rfl⟩
  clear HV
  go_wp2_with fail
  go_loopw [5, 14] (fun v i wr => ∃ k : Nat, k ≤ N ∧ i = .int .i64 k ∧ Hid (OwnI wr w.heap.size v (worldsN S k)) ∧ Hid (Below w.heap.size w wr)) (fun _ i _ => N - (intOf i).toNat)
  case atStart => exact ⟨0, Nat.zero_le _, rfl, (show OwnI _ _ _ (worldsN S 0) from OwnI.nil _ _), Below.refl _ _⟩
  case round =>
    obtain ⟨k, hk, rfl, hown, hbel⟩ := hrel
    by_cases hlt : k < N
    · have hlt' : (k : Int) < (N : Int) := by omega
      have HH := hidIt (HHAS.out k (by omega) wr)
      have HON := hidIt (worldsN_on S k)
      have HOFF := hidIt (worldsN_off S k)
      have HLN := hidIt (worldsN_len S k)
      cases hb : S.getLsbD k
      · rw [hb] at HH
        have HE := hidIt (HOFF.out hb)
        clear hb HON HOFF
        go_wp2_with fail
        refine HH.out.mono ?_
        rintro e w' ⟨rfl, rfl⟩
        go_wp2_with fail
        go_roundw
        case rel => exact ⟨k + 1, by omega, by go_num, by rw [HE.out]; exact hown, hbel⟩
        case measure => simp [intOf]; omega
      · rw [hb] at HH
        have HE := hidIt (HON.out hb)
        clear hb HON HOFF
        have HNW := hidIt (heap_alloc_new wr (.cells #[.int .i64 (k : Int)] 3))
        have HO3 := hidIt (hown.out.alloc (.cells #[.int .i64 (k : Int)] 3))
        have HBW : Hid (w.heap.size ≤ (wr.alloc (.cells #[.int .i64 (k : Int)] 3)).heap.size) := by show _ ≤ _; have := hbel.out.size; simp; omega
        have HOB := hidIt hown.out.block
        go_wp2_with fail
        refine HH.out.mono ?_
        rintro e w' ⟨rfl, rfl⟩
        go_wp2_with (at_builtin; refine wpList_append_int rfl _ _ rfl w.heap.size _ (worldsN S k) rfl HO3.out _ 1 rfl HNW.out (by have := HLN.out; omega) HBW.out ?_)
        intro v' w8 ho8 hg8
        have HO8 := hidIt ho8
        have HB8 : Hid (Below w.heap.size w w8) := below_over2 hbel.out (Grows.alloc _ _) hg8 (fun g e => (HOB.out g e).1)
        clear ho8 hg8
        go_wp2_with fail
        go_roundw
        case rel => exact ⟨k + 1, by omega, by go_num, by rw [HE.out]; exact HO8, HB8⟩
        case measure => simp [intOf]; omega
    · obtain rfl : k = N := by omega
      go_wp2_with fail
      go_ret
      exact ⟨_, rfl, by rw [HR.out]; exact hown.out.row, hbel.out⟩

/-- The first k worlds of a set, counted. -/
def cntS (S : BitVec 64) (k : Nat) : Nat := cntN S.toNat k
theorem cntS_succ (S : BitVec 64) (k : Nat) : cntS S (k + 1) = cntS S k + (if S.getLsbD k then 1 else 0) := by
  unfold cntS cntN
  rw [List.range_succ, List.countP_append]
  congr 1
  have e : S.toNat.testBit k = S.getLsbD k := rfl
  simp only [List.countP_cons, List.countP_nil, Nat.zero_add, e]
theorem cntS_le (S : BitVec 64) (k : Nat) : cntS S k ≤ k := by
  unfold cntS cntN
  have := List.countP_le_length (p := fun j => S.toNat.testBit j) (l := List.range k)
  rwa [List.length_range] at this

set_option maxHeartbeats 1000000 in
theorem wsize_all (S : BitVec 64) (w : World) : Calls Tryz.prog 34 #[bv S] w fun e w' => e = .returned (.int .i64 ((cntS S 64 : Nat) : Int)) ∧ w' = w := by
  have h := wsize_any S w
  rw [ones_all S.toNat S.isLt] at h
  exact h

set_option maxRecDepth 100000 in
set_option maxHeartbeats 1000000 in
theorem r3size_any (S : BitVec 64) (w : World) : Calls Tryz.prog 35 #[bv S] w fun e w' => e = .returned (.int .i64 ((cntS S 64 : Nat) : Int)) ∧ Below w.heap.size w w' := by
  have HHAS := hidIt (fun k hk w => r3has_any S k hk w)
  have hS := S.isLt
  go_enter Tryz.func35, Tryz.ntmps35
  go_wp2_with fail
  go_loopw [3, 4] (fun c i wr => ∃ k : Nat, k ≤ 64 ∧ i = .int .i64 k ∧ c = .int .i64 ((cntS S k : Nat) : Int) ∧ wr = w) (fun _ i _ => 64 - (intOf i).toNat)
  case atStart => exact ⟨0, Nat.zero_le _, rfl, rfl, rfl⟩
  case round =>
    obtain ⟨k, hk, rfl, rfl, rfl⟩ := hrel
    by_cases hlt : k < 64
    · have hlt' : (k : Int) < 64 := by omega
      have HH := hidIt (HHAS.out k hlt wr)
      have HST := hidIt (cntS_succ S k)
      have hle := cntS_le S k
      generalize cntS S k = c at *
      cases hb : S.getLsbD k
      · rw [hb] at HH HST
        clear hb
        go_wp2_with fail
        refine HH.out.mono ?_
        rintro e w' ⟨rfl, rfl⟩
        go_wp2_with fail
        go_roundw
        case rel => exact ⟨k + 1, by omega, by go_num, by rw [HST.out]; rfl, by first | rfl | trivial⟩
        case measure => simp [intOf]; omega
      · rw [hb] at HH HST
        clear hb
        go_wp2_with fail
        refine HH.out.mono ?_
        rintro e w' ⟨rfl, rfl⟩
        go_wp2_with fail
        go_roundw
        case rel => exact ⟨k + 1, by omega, by go_num, by rw [HST.out]; go_num, by first | rfl | trivial⟩
        case measure => simp [intOf]; omega
    · obtain rfl : k = 64 := by omega
      go_wp2_with fail
      go_ret
      exact ⟨rfl, Below.refl _ _⟩
end Go.Proofs.YtbihnfocghcplaaGreatDoor

namespace Go.Proofs.YtbihnfocghcplaaGreatDoor
set_option linter.unusedVariables false
set_option linter.unusedSimpArgs false
open Go Go.RowKit

set_option maxRecDepth 100000 in
set_option maxHeartbeats 1000000 in
theorem r3index_any (l : List ByteArray) (s : ByteArray) (a : Option Addr) (c : Nat) (hn : l.length ≤ 1000000) (w : World) {S : Nat → Prop} (h : StrsIn w S a l) :
    Calls Tryz.prog 78 #[.slice a l.length c, .string s] w fun e w' => e = .returned (.int .i64 (indexI l s)) ∧ w = w' := by
  have H := hidIt h
  clear h
  go_enter Tryz.func78, Tryz.ntmps78
  go_wp2_with fail
  go_loop [5] (fun i => ∃ k : Nat, k ≤ l.length ∧ i = .int .i64 k ∧ Hid (inB (l.take k) s = false)) (fun i => l.length - (intOf i).toNat)
  case atStart => exact ⟨0, Nat.zero_le _, rfl, by show _ = _; simp [inB]⟩
  case round =>
    obtain ⟨k, hk, rfl, hno⟩ := hrel
    by_cases hlt : k < l.length
    · obtain ⟨b, off, rfl, c0, hsz⟩ := H.out.at k hlt
      have HIDX := hidIt (fun e => idx_at (s := s) hlt hno.out e)
      have HST := hidIt (inB_take l k hlt s)
      have HM : Hid (l[k] ∈ l) := List.getElem_mem hlt
      have hlt' : (k : Int) < (l.length : Int) := by omega
      have hk0 : (0 : Int) ≤ (k : Int) := by omega
      generalize l[k] = x at *
      cases he : (x.toList == s.toList)
      · have HN : Hid (inB (l.take (k + 1)) s = false) := by
          show _ = _
          rw [HST.out, hno.out, Bool.false_or, inB_one, ← Lib.toList_data, ← Lib.toList_data]
          exact he
        clear HIDX HST hno
        go_wp2_with fail
        go_round
        case rel => exact ⟨k + 1, by omega, by go_num, HN⟩
        case measure => simp [intOf]; omega
      · have hxs : x.data.toList = s.data.toList := by
          have h1 := eq_of_beq he
          rw [Lib.toList_data, Lib.toList_data] at h1
          exact h1
        have HI : Hid (indexI l s = (k : Int)) := by
          show _ = _
          unfold indexI
          rw [if_pos (inB_mem.2 (by rw [← bytes_inj hxs]; exact HM.out)), HIDX.out hxs]
        clear HIDX HST hno hxs HM
        go_wp2_with fail
        go_ret
        exact ⟨ret_i64 HI.out.symm, rfl⟩
    · obtain rfl : k = l.length := by omega
      have HI : Hid (indexI l s = -1) := by
        show _ = _
        have := hno.out
        rw [List.take_length] at this
        unfold indexI
        rw [this]
        rfl
      clear hno
      go_wp2_with fail
      go_ret
      exact ⟨ret_i64 HI.out.symm, rfl⟩

theorem pow_le64R {n : Nat} (h : n ≤ 6) : 2 ^ n ≤ 64 := by
  have := Nat.pow_le_pow_right (n := 2) (by omega) h
  omega
def xorB (j m : Nat) : Bool := (if j.testBit m then decide (j - 2 ^ m = j ^^^ 2 ^ m) else decide (j + 2 ^ m = j ^^^ 2 ^ m)) && decide (j ^^^ 2 ^ m < 64)
theorem xorB_F : ∀ j : Fin 64, ∀ m : Fin 6, xorB j.val m.val = true := by decide +kernel
def xorN (j m n : Nat) : Bool := !decide (m < n) || (decide (j ^^^ 2 ^ m < 2 ^ n) == decide (j < 2 ^ n))
theorem xorN_F : ∀ j : Fin 64, ∀ m : Fin 6, ∀ n : Fin 7, xorN j.val m.val n.val = true := by decide +kernel
theorem xorI_F : ∀ j : Fin 64, ∀ m : Fin 6, bits BinOp.xor IntKind.i64 (j.val : Int) ((2 ^ m.val : Nat) : Int) = ((j.val ^^^ 2 ^ m.val : Nat) : Int) := by decide +kernel
theorem xor_lt (j m : Nat) (hj : j < 64) (hm : m < 6) : j ^^^ 2 ^ m < 64 := by
  have := xorB_F ⟨j, hj⟩ ⟨m, hm⟩
  simp only [xorB, Bool.and_eq_true, decide_eq_true_eq] at this
  exact this.2
theorem hilo (A : BitVec 64) (j m : Nat) (hj : j < 64) (hm : m < 6) : (A.getLsbD (hiW j m) || A.getLsbD (loW j m)) = (A.getLsbD j || A.getLsbD (j ^^^ 2 ^ m)) := by
  have := xorB_F ⟨j, hj⟩ ⟨m, hm⟩
  simp only [xorB, Bool.and_eq_true] at this
  have h1 := this.1
  unfold hiW loW
  by_cases hb : j.testBit m = true
  · rw [if_pos hb, decide_eq_true_eq] at h1
    rw [if_pos hb, if_pos hb, h1]
  · rw [if_neg hb, decide_eq_true_eq] at h1
    rw [if_neg hb, if_neg hb, h1, Bool.or_comm]

/-- Does forgetting keep the world? (m: the atom's place, or none) -/
def forP (S : BitVec 64) (m : Option Nat) (j : Nat) : Bool := S.getLsbD j || match m with
  | some m => S.getLsbD (j ^^^ 2 ^ m)
  | none => false
/-- What Forget answers. -/
def forR (l : List ByteArray) (S : BitVec 64) (s : ByteArray) : BitVec 64 := if vocB l = true then forgetS l S s else 0#64
theorem forR_some {l : List ByteArray} {S : BitVec 64} {s : ByteArray} (hv : vocB l = true) (hin : inB l s = true) (hidx : idxB l s < l.length) : forR l S s = wsetN (forP S (some (idxB l s))) (2 ^ l.length) := by
  have h6 := vocB_len hv
  rw [forR, if_pos hv, forgetS, if_pos hin]
  refine set_ext fun j hj => ?_
  rw [forgetI_bit _ _ j (by omega) hj, hilo _ j _ hj (by omega), wsetN_bit, and_allS_bit, and_allS_bit]
  have hx := xor_lt j (idxB l s) hj (by omega)
  have hn := xorN_F ⟨j, hj⟩ ⟨idxB l s, by omega⟩ ⟨l.length, by omega⟩
  simp only [xorN, decide_eq_true hidx, Bool.not_true, Bool.false_or, beq_iff_eq] at hn
  rw [hn, decide_eq_true hj, decide_eq_true hx]
  unfold forP
  generalize decide (j < 2 ^ l.length) = r
  cases r <;> simp
theorem forR_none {l : List ByteArray} {S : BitVec 64} {s : ByteArray} (hv : vocB l = true) (hin : inB l s = false) : forR l S s = wsetN (forP S none) (2 ^ l.length) := by
  rw [forR, if_pos hv, forgetS, if_neg (by rw [hin]; decide)]
  refine set_ext fun j hj => ?_
  rw [wsetN_bit, and_allS_bit, decide_eq_true hj]
  unfold forP
  generalize decide (j < 2 ^ l.length) = r
  cases r <;> simp

set_option maxRecDepth 100000 in
set_option maxHeartbeats 2000000 in
theorem r3forget_any (l : List ByteArray) (S : BitVec 64) (s : ByteArray) (a : Option Addr) (c : Nat) (hn : l.length ≤ 1000000) (w : World) (h : StrsIn w (fun _ => True) a l) :
    Calls Tryz.prog 37 #[.slice a l.length c, bv S, .string s] w fun e w' => e = .returned (bv (forR l S s)) ∧ Below w.heap.size w w' := by
  have HV := hidIt (r3valid_any l a c hn w h)
  have H := hidIt h
  clear h
  by_cases hv : vocB l = true
  case neg =>
    have HR : Hid (forR l S s = 0#64) := by show _ = _; rw [forR, if_neg hv]
    have hv' : vocB l = false := by simpa using hv
    rw [hv'] at HV
    clear hv hv'
    go_enter Tryz.func37, Tryz.ntmps37
    go_wp2_with fail
    refine HV.out.mono ?_
    rintro e w1 ⟨rfl, hb⟩
    go_wp2_with fail
    go_ret
    exact ⟨ret_u64 (by rw [HR.out]; rfl), hb⟩
  case pos =>
  have h6 := vocB_len hv
  rw [hv] at HV
  have HCT := hidIt (fun w => r3count_any l.length a c h6 w)
  have HIX := hidIt (fun w (h : StrsIn w (fun _ => True) a l) => r3index_any l s a c hn w h)
  have hp := pow_le64R h6
  have HHAS := hidIt (fun k hk w => r3has_any S k hk w)
  have hS := S.isLt
  by_cases hin : inB l s = true
  case neg =>
    have hin' : inB l s = false := by simpa using hin
    have HR := hidIt (forR_none (S := S) hv hin')
    have HI : Hid (indexI l s = -1) := by show _ = _; unfold indexI; rw [hin']; rfl
    rw [HI.out] at HIX
    obtain ⟨N, hN⟩ : ∃ N, N = 2 ^ l.length := ⟨_, rfl⟩
    rw [← hN] at HCT HR hp
    clear hN hv hin hin' HI
    go_enter Tryz.func37, Tryz.ntmps37
    go_wp2_with fail
    refine HV.out.mono ?_
    rintro e w1 ⟨rfl, hb⟩
    have HB1 := hidIt hb
    have H1 := hidIt (H.out.go hb)
    clear hb HV H
    go_wp2_with fail
    refine (HIX.out _ H1.out).mono ?_
    rintro e w2 ⟨rfl, rfl⟩
    go_wp2_with fail
    go_loopw [8, 9] (fun o i wr => ∃ k : Nat, k ≤ N ∧ i = .int .i64 k ∧ o = bv (wsetN (forP S none) k) ∧ wr = w1) (fun _ i _ => N - (intOf i).toNat)
    case atStart => exact ⟨0, Nat.zero_le _, rfl, rfl, rfl⟩
    case round =>
      obtain ⟨k, hk, rfl, rfl, rfl⟩ := hrel
      by_cases hlt : k < N
      · have hlt' : (k : Int) < (N : Int) := by omega
        have HH := hidIt (HHAS.out k (by omega) wr)
        have hw : IntKind.u64.wrap (k : Int) = (k : Int) := by rw [IntKind.wrap_u64]; omega
        have HST : Hid (wsetN (forP S none) (k + 1) = if S.getLsbD k then wsetN (forP S none) k ||| BitVec.twoPow 64 k else wsetN (forP S none) k) := by
          show _ = _
          rw [wsetN_succ]
          simp [forP]
        generalize wsetN (forP S none) k = T at *
        cases hb : S.getLsbD k
        · rw [hb] at HH HST
          clear hb
          go_wp2_with fail
          refine (HCT.out _).mono ?_
          rintro e w' ⟨rfl, rfl⟩
          go_wp2_with fail
          refine HH.out.mono ?_
          rintro e w' ⟨rfl, rfl⟩
          go_wp2_with fail
          go_roundw
          case rel => exact ⟨k + 1, by omega, by go_num, by rw [HST.out]; rfl, by first | rfl | trivial⟩
          case measure => simp [intOf]; omega
        · rw [hb] at HH HST
          clear hb
          go_wp2_with fail
          refine (HCT.out _).mono ?_
          rintro e w' ⟨rfl, rfl⟩
          go_wp2_with fail
          refine HH.out.mono ?_
          rintro e w' ⟨rfl, rfl⟩
          go_wp2_with fail
          go_roundw
          case rel => exact ⟨k + 1, by omega, by go_num, by rw [HST.out, if_pos trivial, bv, or_one T k (by omega)], by first | rfl | trivial⟩
          case measure => simp [intOf]; omega
      · obtain rfl : k = N := by omega
        go_wp2_with fail
        refine (HCT.out _).mono ?_
        rintro e w' ⟨rfl, rfl⟩
        go_wp2_with fail
        go_ret
        exact ⟨ret_u64 (by rw [HR.out]), HB1.out⟩
  case pos =>
  have hidx : idxB l s < l.length := by
    unfold idxB
    rw [List.findIdx_lt_length]
    exact ⟨s, inB_mem.1 hin, by simp⟩
  have HR := hidIt (forR_some (S := S) hv hin hidx)
  have HI : Hid (indexI l s = (idxB l s : Int)) := by show _ = _; unfold indexI; rw [if_pos hin]
  rw [HI.out] at HIX
  have hm6 : idxB l s < 6 := by omega
  obtain ⟨N, hN⟩ : ∃ N, N = 2 ^ l.length := ⟨_, rfl⟩
  rw [← hN] at HCT HR hp
  clear hN hv hin HI hidx
  generalize idxB l s = m at *
  have hP : 2 ^ m ≤ 32 := by
    have := Nat.pow_le_pow_right (n := 2) (by omega) (show m ≤ 5 by omega)
    omega
  have hpw : IntKind.i64.wrap (2 ^ m) = ((2 ^ m : Nat) : Int) := by
    have e : ((2 : Int) ^ m) = ((2 ^ m : Nat) : Int) := by rw [Int.natCast_pow]; rfl
    rw [e]
    exact IntWalk.i64_in _ (by generalize 2 ^ m = M at hP ⊢; omega)
  have hwm : IntKind.u64.wrap (m : Int) = (m : Int) := by rw [IntKind.wrap_u64]; omega
  have hm0 : (0 : Int) ≤ (m : Int) := by omega
  have HX := hidIt (fun k (hk : k < 64) => xorI_F ⟨k, hk⟩ ⟨m, hm6⟩)
  have HXL := hidIt (fun k (hk : k < 64) => xor_lt k m hk hm6)
  go_enter Tryz.func37, Tryz.ntmps37
  go_wp2_with fail
  refine HV.out.mono ?_
  rintro e w1 ⟨rfl, hb⟩
  have HB1 := hidIt hb
  have H1 := hidIt (H.out.go hb)
  clear hb HV H
  go_wp2_with fail
  refine (HIX.out _ H1.out).mono ?_
  rintro e w2 ⟨rfl, rfl⟩
  go_wp2_with fail
  go_loopw [8, 9] (fun o i wr => ∃ k : Nat, k ≤ N ∧ i = .int .i64 k ∧ o = bv (wsetN (forP S (some m)) k) ∧ wr = w1) (fun _ i _ => N - (intOf i).toNat)
  case atStart => exact ⟨0, Nat.zero_le _, rfl, rfl, rfl⟩
  case round =>
    obtain ⟨k, hk, rfl, rfl, rfl⟩ := hrel
    by_cases hlt : k < N
    · have hlt' : (k : Int) < (N : Int) := by omega
      have HH := hidIt (HHAS.out k (by omega) wr)
      have HH2 := hidIt (HHAS.out (k ^^^ 2 ^ m) (HXL.out k (by omega)) wr)
      have hxr : bits BinOp.xor IntKind.i64 (k : Int) ((2 ^ m : Nat) : Int) = ((k ^^^ 2 ^ m : Nat) : Int) := HX.out k (by omega)
      have hw : IntKind.u64.wrap (k : Int) = (k : Int) := by rw [IntKind.wrap_u64]; omega
      have HST : Hid (wsetN (forP S (some m)) (k + 1) = if S.getLsbD k || S.getLsbD (k ^^^ 2 ^ m) then wsetN (forP S (some m)) k ||| BitVec.twoPow 64 k else wsetN (forP S (some m)) k) := by
        show _ = _
        rw [wsetN_succ]
        rfl
      generalize wsetN (forP S (some m)) k = T at *
      generalize k ^^^ 2 ^ m = K2 at *
      generalize 2 ^ m = P at *
      cases hb : S.getLsbD k
      · rw [hb] at HH HST
        clear hb
        cases hb2 : S.getLsbD K2
        · rw [hb2] at HH2 HST
          clear hb2
          go_wp2_with fail
          refine (HCT.out _).mono ?_
          rintro e w' ⟨rfl, rfl⟩
          go_wp2_with fail
          refine HH.out.mono ?_
          rintro e w' ⟨rfl, rfl⟩
          go_wp2_with fail
          refine HH2.out.mono ?_
          rintro e w' ⟨rfl, rfl⟩
          go_wp2_with fail
          go_roundw
          case rel => exact ⟨k + 1, by omega, by go_num, by rw [HST.out]; rfl, by first | rfl | trivial⟩
          case measure => simp [intOf]; omega
        · rw [hb2] at HH2 HST
          clear hb2
          go_wp2_with fail
          refine (HCT.out _).mono ?_
          rintro e w' ⟨rfl, rfl⟩
          go_wp2_with fail
          refine HH.out.mono ?_
          rintro e w' ⟨rfl, rfl⟩
          go_wp2_with fail
          refine HH2.out.mono ?_
          rintro e w' ⟨rfl, rfl⟩
          go_wp2_with fail
          go_roundw
          case rel => exact ⟨k + 1, by omega, by go_num, by rw [HST.out]; simp only [Bool.or_true, if_true]; rw [bv, or_one T k (by omega)], by first | rfl | trivial⟩
          case measure => simp [intOf]; omega
      · rw [hb] at HH HST
        clear hb
        go_wp2_with fail
        refine (HCT.out _).mono ?_
        rintro e w' ⟨rfl, rfl⟩
        go_wp2_with fail
        refine HH.out.mono ?_
        rintro e w' ⟨rfl, rfl⟩
        go_wp2_with fail
        go_roundw
        case rel => exact ⟨k + 1, by omega, by go_num, by rw [HST.out]; simp only [Bool.true_or, if_true]; rw [bv, or_one T k (by omega)], by first | rfl | trivial⟩
        case measure => simp [intOf]; omega
    · obtain rfl : k = N := by omega
      go_wp2_with fail
      refine (HCT.out _).mono ?_
      rintro e w' ⟨rfl, rfl⟩
      go_wp2_with fail
      go_ret
      exact ⟨ret_u64 (by rw [HR.out]), HB1.out⟩

/-- All, at lists of names whatever. -/
theorem wAllR_any (l : List ByteArray) (a : Option Addr) (c : Nat) (hn : l.length ≤ 1000000) (w : World) {S : Nat → Prop} (h : StrsIn w S a l) :
    Calls Tryz.prog 28 #[.slice a l.length c] w fun e w' => e = .returned (bv (allR l)) ∧ w = w' := by
  by_cases hv : vocB l = true
  · rw [allR, if_pos hv]
    exact wAll_any l hv a c (vocB_len hv) w h
  · have hv' : vocB l = false := by simpa using hv
    have HV := hidIt (wvalid_any l a c hn w h)
    have HR : Hid (allR l = 0#64) := by show _ = _; rw [allR, if_neg hv]
    rw [hv'] at HV
    clear hv hv' h
    go_enter Tryz.func28, Tryz.ntmps28
    go_wp2_with fail
    refine HV.out.mono ?_
    rintro e w1 ⟨rfl, rfl⟩
    go_wp2_with fail
    go_ret
    exact ⟨ret_u64 (by rw [HR.out]; rfl), rfl⟩

set_option maxRecDepth 100000 in
set_option maxHeartbeats 2000000 in
theorem wforgetR_any (l : List ByteArray) (S : BitVec 64) (s : ByteArray) (a : Option Addr) (c : Nat) (hn : l.length ≤ 1000000) (w : World) (h : StrsIn w (fun _ => True) a l) :
    Calls Tryz.prog 36 #[.slice a l.length c, bv S, .string s] w fun e w' => e = .returned (bv (forR l S s)) ∧ Below w.heap.size w w' := by
  by_cases hv : vocB l = true
  · rw [forR, if_pos hv]
    exact forget_any l hv S s a c w h
  · have HR : Hid (forR l S s = 0#64) := by show _ = _; rw [forR, if_neg hv]
    have HALL := hidIt (wAllR_any l a c hn w h)
    have ha : allR l = 0#64 := by rw [allR, if_neg hv]
    rw [ha] at HALL
    have HIDX := hidIt (indexS_any l s a c hn w h)
    have hand : bits .and .u64 (S.toNat : Int) 0 = 0 := by
      have := bits_and_bv S 0#64
      rw [BitVec.and_zero] at this
      exact this
    have he0 : bv 0#64 = .int .u64 0 := rfl
    rw [he0] at HALL
    clear hv ha he0 h
    by_cases hin : inB l s = true
    · have HI : Hid (indexI l s = (idxB l s : Int)) := by show _ = _; unfold indexI; rw [if_pos hin]
      rw [HI.out] at HIDX
      clear HI hin
      generalize idxB l s = i at *
      have hi0 : (0 : Int) ≤ (i : Int) := by omega
      go_enter Tryz.func36, Tryz.ntmps36
      go_wp2_with fail
      refine HALL.out.mono ?_
      rintro e w' ⟨rfl, rfl⟩
      go_wp2_with fail
      refine HIDX.out.mono ?_
      rintro e w' ⟨rfl, rfl⟩
      go_wp2_with fail
      go_ret
      exact ⟨ret_u64 (by rw [HR.out]; rfl), Below.refl _ _⟩
    · have hin' : inB l s = false := by simpa using hin
      have HI : Hid (indexI l s = -1) := by show _ = _; unfold indexI; rw [hin']; rfl
      rw [HI.out] at HIDX
      clear HI hin hin'
      go_enter Tryz.func36, Tryz.ntmps36
      go_wp2_with fail
      refine HALL.out.mono ?_
      rintro e w' ⟨rfl, rfl⟩
      go_wp2_with fail
      refine HIDX.out.mono ?_
      rintro e w' ⟨rfl, rfl⟩
      go_wp2_with fail
      go_ret
      exact ⟨ret_u64 (by rw [HR.out]; rfl), Below.refl _ _⟩
end Go.Proofs.YtbihnfocghcplaaGreatDoor

namespace Go.Proofs.YtbihnfocghcplaaGreatDoor
set_option linter.unusedVariables false
set_option linter.unusedSimpArgs false
open Go Go.RowKit

/-- A list of names in a cell; it lies outside block b. -/
def VocCell (w : World) (b : Nat) (v : Value) : Prop := ∃ (l : List ByteArray) (a : Option Addr) (c : Nat), v = .slice a l.length c ∧ l.length ≤ 12 ∧ l.length ≤ c ∧ c ≤ maxLen ∧ StrsIn w (fun i => i ≠ b) a l
theorem VocCell.kept {w w' : World} {b : Nat} {v : Value} (h : VocCell w b v) (hg : w.grownBy w' (some b)) : VocCell w' b v := by
  obtain ⟨l, a, c, h1, h2, h3, h4, h5⟩ := h
  exact ⟨l, a, c, h1, h2, h3, h4, h5.kept fun i hi hl => hg.block i hl (fun e => hi (by injection e))⟩
theorem StrsIn.apart {w : World} {S : Nat → Prop} {a : Option Addr} {l : List ByteArray} (h : StrsIn w S a l) {b : Nat} (hb : ∀ i, i < w.heap.size → S i → i ≠ b) : StrsIn w (fun i => i ≠ b) a l := h.mono fun i hi hS => hb i hi hS

theorem cells4 {w : World} {b : Nat} {x0 x1 x2 x3 : Value} {t : TypeId} (h : w.heap[b]? = some (.cells #[x0, x1, x2, x3] t (0, 0))) (k : Nat) (hk : k < 4) {C : Value → Prop} (h0 : C x0) (h1 : C x1) (h2 : C x2) (h3 : C x3) : ∃ v, w.cell? ⟨b, k, none⟩ = some v ∧ C v := by
  rcases (by omega : k = 0 ∨ k = 1 ∨ k = 2 ∨ k = 3) with rfl | rfl | rfl | rfl
  · exact ⟨x0, by simp [World.cell?, h], h0⟩
  · exact ⟨x1, by simp [World.cell?, h], h1⟩
  · exact ⟨x2, by simp [World.cell?, h], h2⟩
  · exact ⟨x3, by simp [World.cell?, h], h3⟩

end Go.Proofs.YtbihnfocghcplaaGreatDoor
