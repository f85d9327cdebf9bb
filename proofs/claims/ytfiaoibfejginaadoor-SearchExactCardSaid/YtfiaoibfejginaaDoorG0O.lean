/- bits.OnesCount64 at sets of few worlds. -/
import Derived.Test.YtfiaoibfejginaaDoorG0T
namespace Go.Proofs.YtfiaoibfejginaaDoor
set_option linter.unusedVariables false
set_option linter.unusedSimpArgs false
open Go Go.RowKit Go.Sort

theorem bits_and_nat (a b : Nat) (ha : a < 18446744073709551616) (hb : b < 18446744073709551616) : bits .and .u64 (a : Int) (b : Int) = ((a &&& b : Nat) : Int) := by
  have h := bits_and_bv (BitVec.ofNat 64 a) (BitVec.ofNat 64 b)
  rw [BitVec.toNat_and, BitVec.toNat_ofNat, BitVec.toNat_ofNat, Nat.mod_eq_of_lt (by omega : a < 2 ^ 64), Nat.mod_eq_of_lt (by omega : b < 2 ^ 64)] at h
  exact h
theorem and_i64 (a : Nat) (ha : a < 9223372036854775808) : bits .and .i64 (a : Int) 127 = ((a % 128 : Nat) : Int) := by
  show IntKind.i64.wrap ((BitVec.ofInt 64 (a : Int) &&& BitVec.ofInt 64 ((127 : Nat) : Int)).toNat : Int) = _
  rw [BitVec.ofInt_natCast, BitVec.ofInt_natCast, BitVec.toNat_and, BitVec.toNat_ofNat, BitVec.toNat_ofNat, Nat.mod_eq_of_lt (by omega : a < 2 ^ 64)]
  have h : a &&& (127 % 2 ^ 64) = a % 128 := Nat.and_two_pow_sub_one_eq_mod a 7
  rw [h]
  have h1 : a % 128 < 128 := Nat.mod_lt _ (by omega)
  generalize a % 128 = n at h1
  simp [IntKind.wrap, IntKind.bits, IntKind.signed]
  omega
theorem wrap_nat (a : Nat) (ha : a < 18446744073709551616) : IntKind.u64.wrap (a : Int) = (a : Int) := by
  rw [IntKind.wrap_u64]
  omega
theorem wrap64_nat (a : Nat) (ha : a < 9223372036854775808) : wrap64 (a : Int) = (a : Int) := by
  unfold wrap64
  omega

/-- 'And' by bytes. -/
theorem land_byte (a b : Nat) : a &&& b = (a % 256 &&& b % 256) + 256 * (a / 256 &&& b / 256) := by
  have h1 := Nat.and_mod_two_pow (a := a) (b := b) (n := 8)
  have h2 := Nat.and_div_two_pow (a := a) (b := b) (n := 8)
  have e : (2 : Nat) ^ 8 = 256 := rfl
  rw [e] at h1 h2
  rw [← h1, ← h2]
  omega

theorem byte1 : ∀ b : Fin 256, ∀ c : Fin 2, ((b.val / 2 + 128 * c.val) &&& 85) = (b.val / 2 &&& 85) := by decide +kernel
theorem byte2 : ∀ b : Fin 256, ∀ c : Fin 4, ((b.val / 4 + 64 * c.val) &&& 51) = (b.val / 4 &&& 51) := by decide +kernel
theorem land_0 (l h M K N : Nat) (hl : l < 256) (hM : M = K + 256 * N) (hK : K < 256) : (l + 256 * h) &&& M = (l &&& K) + 256 * (h &&& N) := by
  rw [land_byte, show (l + 256 * h) % 256 = l by omega, show (l + 256 * h) / 256 = h by omega, show M % 256 = K by omega, show M / 256 = N by omega]
theorem land_1 (l h M N : Nat) (hl : l < 256) (hM : M = 85 + 256 * N) : (l + 256 * h) / 2 &&& M = (l / 2 &&& 85) + 256 * (h / 2 &&& N) := by
  rw [land_byte, show (l + 256 * h) / 2 % 256 = l / 2 + 128 * (h % 2) by omega, show (l + 256 * h) / 2 / 256 = h / 2 by omega, show M % 256 = 85 by omega, show M / 256 = N by omega]
  have := byte1 ⟨l, hl⟩ ⟨h % 2, by omega⟩
  rw [show ((l / 2 + 128 * (h % 2)) &&& 85) = (l / 2 &&& 85) from this]
theorem land_2 (l h M N : Nat) (hl : l < 256) (hM : M = 51 + 256 * N) : (l + 256 * h) / 4 &&& M = (l / 4 &&& 51) + 256 * (h / 4 &&& N) := by
  rw [land_byte, show (l + 256 * h) / 4 % 256 = l / 4 + 64 * (h % 4) by omega, show (l + 256 * h) / 4 / 256 = h / 4 by omega, show M % 256 = 51 by omega, show M / 256 = N by omega]
  have := byte2 ⟨l, hl⟩ ⟨h % 4, by omega⟩
  rw [show ((l / 4 + 64 * (h % 4)) &&& 51) = (l / 4 &&& 51) from this]

def t1 (b : Nat) : Nat := (b / 2 &&& 85) + (b &&& 85)
def t2 (b : Nat) : Nat := (b / 4 &&& 51) + (b &&& 51)
def pop (b : Nat) : Nat := t2 (t1 b) % 16 + t2 (t1 b) / 16
def byteOk (b : Nat) : Bool := decide (t1 b < 256) && decide (t2 (t1 b) % 16 ≤ 4) && decide (t2 (t1 b) / 16 ≤ 4) && decide (pop b + pop (255 - b) = 8)
theorem byte_F : ∀ b : Fin 256, byteOk b.val = true := by decide +kernel
theorem byte_ok (b : Nat) (h : b < 256) : t1 b < 256 ∧ t2 (t1 b) % 16 ≤ 4 ∧ t2 (t1 b) / 16 ≤ 4 ∧ pop b + pop (255 - b) = 8 := by
  have := byte_F ⟨b, h⟩
  simp only [byteOk, Bool.and_eq_true, decide_eq_true_eq] at this
  exact ⟨this.1.1.1, this.1.1.2, this.1.2, this.2⟩
theorem and15 (v : Nat) : v &&& 15 = v % 16 := Nat.and_two_pow_sub_one_eq_mod v 4

/-- Four bytes. -/
abbrev by4 (a b c d : Nat) : Nat := a + 256 * (b + 256 * (c + 256 * d))
theorem st1 (a b c d : Nat) (ha : a < 256) (hb : b < 256) (hc : c < 256) (hd : d < 256) : (by4 a b c d / 2 &&& 6148914691236517205) + (by4 a b c d &&& 6148914691236517205) = by4 (t1 a) (t1 b) (t1 c) (t1 d) := by
  unfold by4 t1
  rw [land_1 a _ _ 24019198012642645 ha (by omega), land_1 b _ _ 93824992236885 hb (by omega), land_1 c _ _ 366503875925 hc (by omega), land_0 a _ _ 85 24019198012642645 ha (by omega) (by omega), land_0 b _ _ 85 93824992236885 hb (by omega) (by omega), land_0 c _ _ 85 366503875925 hc (by omega) (by omega)]
  have e1 := land_1 d 0 366503875925 1431655765 hd (by omega)
  have e2 := land_0 d 0 366503875925 85 1431655765 hd (by omega) (by omega)
  simp only [Nat.mul_zero, Nat.add_zero, Nat.zero_div, Nat.zero_and] at e1 e2
  rw [e1, e2]
  omega
theorem st2 (a b c d : Nat) (ha : a < 256) (hb : b < 256) (hc : c < 256) (hd : d < 256) : (by4 a b c d / 4 &&& 3689348814741910323) + (by4 a b c d &&& 3689348814741910323) = by4 (t2 a) (t2 b) (t2 c) (t2 d) := by
  unfold by4 t2
  rw [land_2 a _ _ 14411518807585587 ha (by omega), land_2 b _ _ 56294995342131 hb (by omega), land_2 c _ _ 219902325555 hc (by omega), land_0 a _ _ 51 14411518807585587 ha (by omega) (by omega), land_0 b _ _ 51 56294995342131 hb (by omega) (by omega), land_0 c _ _ 51 219902325555 hc (by omega) (by omega)]
  have e1 := land_2 d 0 219902325555 858993459 hd (by omega)
  have e2 := land_0 d 0 219902325555 51 858993459 hd (by omega) (by omega)
  simp only [Nat.mul_zero, Nat.add_zero, Nat.zero_div, Nat.zero_and] at e1 e2
  rw [e1, e2]
  omega
theorem st3 (a b c d : Nat) (ha : a % 16 ≤ 4 ∧ a / 16 ≤ 4) (hb : b % 16 ≤ 4 ∧ b / 16 ≤ 4) (hc : c % 16 ≤ 4 ∧ c / 16 ≤ 4) (hd : d % 16 ≤ 4 ∧ d / 16 ≤ 4) :
    (by4 a b c d / 16 + by4 a b c d) &&& 1085102592571150095 = by4 (a % 16 + a / 16) (b % 16 + b / 16) (c % 16 + c / 16) (d % 16 + d / 16) := by
  have e : by4 a b c d / 16 + by4 a b c d = (a + a / 16 + 16 * (b % 16)) + 256 * ((b + b / 16 + 16 * (c % 16)) + 256 * ((c + c / 16 + 16 * (d % 16)) + 256 * (d + d / 16))) := by unfold by4; omega
  rw [e, land_0 _ _ _ 15 4238682002231055 (by omega) (by omega) (by omega), land_0 _ _ _ 15 16557351571215 (by omega) (by omega) (by omega), land_0 _ _ _ 15 64677154575 (by omega) (by omega) (by omega)]
  have e2 := land_0 (d + d / 16) 0 64677154575 15 252645135 (by omega) (by omega) (by omega)
  simp only [Nat.mul_zero, Nat.add_zero, Nat.zero_and] at e2
  rw [e2, and15, and15, and15, and15]
  have m0 : (a + a / 16 + 16 * (b % 16)) % 16 = a % 16 + a / 16 := by omega
  have m1 : (b + b / 16 + 16 * (c % 16)) % 16 = b % 16 + b / 16 := by omega
  have m2 : (c + c / 16 + 16 * (d % 16)) % 16 = c % 16 + c / 16 := by omega
  have m3 : (d + d / 16) % 16 = d % 16 + d / 16 := by omega
  rw [m0, m1, m2, m3]

/-- What the program works out. -/
def onesI (x : Int) : Int :=
  let a := IntKind.u64.wrap (bits .and .u64 (x / 2) 6148914691236517205 + bits .and .u64 x 6148914691236517205)
  let b := IntKind.u64.wrap (bits .and .u64 (a / 4) 3689348814741910323 + bits .and .u64 a 3689348814741910323)
  let c := bits .and .u64 (IntKind.u64.wrap (b / 16 + b)) 1085102592571150095
  let d := IntKind.u64.wrap (c + c / 256)
  let e := IntKind.u64.wrap (d + d / 65536)
  let f := IntKind.u64.wrap (e + e / 4294967296)
  bits .and .i64 (wrap64 f) 127

theorem ones_at (a b c d : Nat) (ha : a < 256) (hb : b < 256) (hc : c < 256) (hd : d < 256) : onesI ((by4 a b c d : Nat) : Int) = ((pop a + pop b + pop c + pop d : Nat) : Int) := by
  obtain ⟨a1, a2, a3, -⟩ := byte_ok a ha
  obtain ⟨b1, b2, b3, -⟩ := byte_ok b hb
  obtain ⟨c1, c2, c3, -⟩ := byte_ok c hc
  obtain ⟨d1, d2, d3, -⟩ := byte_ok d hd
  have s1 := st1 a b c d ha hb hc hd
  have s2 := st2 _ _ _ _ a1 b1 c1 d1
  have s3 := st3 _ _ _ _ ⟨a2, a3⟩ ⟨b2, b3⟩ ⟨c2, c3⟩ ⟨d2, d3⟩
  have hX : by4 a b c d < 4294967296 := by unfold by4; omega
  have hA : by4 (t1 a) (t1 b) (t1 c) (t1 d) < 4294967296 := by unfold by4; omega
  have hB : by4 (t2 (t1 a)) (t2 (t1 b)) (t2 (t1 c)) (t2 (t1 d)) < 4294967296 := by unfold by4; omega
  unfold pop
  generalize t2 (t1 a) = a' at *
  generalize t2 (t1 b) = b' at *
  generalize t2 (t1 c) = c' at *
  generalize t2 (t1 d) = d' at *
  generalize by4 (t1 a) (t1 b) (t1 c) (t1 d) = A at *
  generalize by4 a' b' c' d' = B at *
  generalize by4 a b c d = X at *
  have q1 : IntKind.u64.wrap (bits .and .u64 ((X : Int) / 2) 6148914691236517205 + bits .and .u64 (X : Int) 6148914691236517205) = (A : Int) := by
    have h1 := bits_and_nat (X / 2) 6148914691236517205 (by omega) (by omega)
    have h2 := bits_and_nat X 6148914691236517205 (by omega) (by omega)
    have e1 : ((X / 2 : Nat) : Int) = (X : Int) / 2 := by omega
    rw [e1] at h1
    rw [show bits .and .u64 ((X : Int) / 2) 6148914691236517205 = _ from h1, show bits .and .u64 (X : Int) 6148914691236517205 = _ from h2, ← Int.natCast_add, s1, wrap_nat _ (by omega)]
  have q2 : IntKind.u64.wrap (bits .and .u64 ((A : Int) / 4) 3689348814741910323 + bits .and .u64 (A : Int) 3689348814741910323) = (B : Int) := by
    have h1 := bits_and_nat (A / 4) 3689348814741910323 (by omega) (by omega)
    have h2 := bits_and_nat A 3689348814741910323 (by omega) (by omega)
    have e1 : ((A / 4 : Nat) : Int) = (A : Int) / 4 := by omega
    rw [e1] at h1
    rw [show bits .and .u64 ((A : Int) / 4) 3689348814741910323 = _ from h1, show bits .and .u64 (A : Int) 3689348814741910323 = _ from h2, ← Int.natCast_add, s2, wrap_nat _ (by omega)]
  have q3 : bits .and .u64 (IntKind.u64.wrap ((B : Int) / 16 + (B : Int))) 1085102592571150095 = ((by4 (a' % 16 + a' / 16) (b' % 16 + b' / 16) (c' % 16 + c' / 16) (d' % 16 + d' / 16) : Nat) : Int) := by
    have e1 : (B : Int) / 16 + (B : Int) = ((B / 16 + B : Nat) : Int) := by omega
    rw [e1, wrap_nat _ (by omega)]
    have h1 := bits_and_nat (B / 16 + B) 1085102592571150095 (by omega) (by omega)
    rw [show bits .and .u64 ((B / 16 + B : Nat) : Int) 1085102592571150095 = _ from h1, s3]
  simp only [onesI]
  rw [q1, q2, q3]
  clear q1 q2 q3 s1 s2 s3
  obtain ⟨p0, h0⟩ : ∃ p, p = a' % 16 + a' / 16 := ⟨_, rfl⟩
  obtain ⟨p1, h1⟩ : ∃ p, p = b' % 16 + b' / 16 := ⟨_, rfl⟩
  obtain ⟨p2, h2⟩ : ∃ p, p = c' % 16 + c' / 16 := ⟨_, rfl⟩
  obtain ⟨p3, h3⟩ : ∃ p, p = d' % 16 + d' / 16 := ⟨_, rfl⟩
  have k0 : p0 ≤ 8 := by omega
  have k1 : p1 ≤ 8 := by omega
  have k2 : p2 ≤ 8 := by omega
  have k3 : p3 ≤ 8 := by omega
  rw [← h0, ← h1, ← h2, ← h3]
  clear h0 h1 h2 h3 a2 a3 b2 b3 c2 c3 d2 d3 hX hA hB a1 b1 c1 d1
  have f1 : ((by4 p0 p1 p2 p3 : Nat) : Int) + ((by4 p0 p1 p2 p3 : Nat) : Int) / 256 = (((p0 + p1) + 256 * ((p1 + p2) + 256 * ((p2 + p3) + 256 * p3)) : Nat) : Int) := by
    unfold by4
    have : (p0 + 256 * (p1 + 256 * (p2 + 256 * p3))) / 256 = p1 + 256 * (p2 + 256 * p3) := by omega
    omega
  rw [f1, wrap_nat _ (by omega)]
  have f2 : (((p0 + p1) + 256 * ((p1 + p2) + 256 * ((p2 + p3) + 256 * p3)) : Nat) : Int) + (((p0 + p1) + 256 * ((p1 + p2) + 256 * ((p2 + p3) + 256 * p3)) : Nat) : Int) / 65536 = (((p0 + p1 + p2 + p3) + 256 * ((p1 + p2 + p3) + 256 * ((p2 + p3) + 256 * p3)) : Nat) : Int) := by
    have : ((p0 + p1) + 256 * ((p1 + p2) + 256 * ((p2 + p3) + 256 * p3))) / 65536 = (p2 + p3) + 256 * p3 := by omega
    omega
  rw [f2, wrap_nat _ (by omega)]
  have f3 : (((p0 + p1 + p2 + p3) + 256 * ((p1 + p2 + p3) + 256 * ((p2 + p3) + 256 * p3)) : Nat) : Int) + (((p0 + p1 + p2 + p3) + 256 * ((p1 + p2 + p3) + 256 * ((p2 + p3) + 256 * p3)) : Nat) : Int) / 4294967296 = (((p0 + p1 + p2 + p3) + 256 * ((p1 + p2 + p3) + 256 * ((p2 + p3) + 256 * p3)) : Nat) : Int) := by omega
  rw [f3, wrap_nat _ (by omega), wrap64_nat _ (by omega), and_i64 _ (by omega)]
  omega

set_option maxHeartbeats 1000000 in
theorem ones_any (S : BitVec 64) (w : World) : Calls Tryd.prog 79 #[bv S] w fun e w' => e = .returned (.int .i64 (onesI (S.toNat : Int))) ∧ w' = w := by
  have hsgn : IntKind.u64.signed = false := rfl
  go_enter Tryd.func79, Tryd.ntmps79
  go_wp2
  go_ret
  exact ⟨ret_int rfl, rfl⟩
end Go.Proofs.YtfiaoibfejginaaDoor
