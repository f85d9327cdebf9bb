/- math/bits.OnesCount64 at all sets: what the program works out is the number of the set's worlds. -/
import Derived.Test.YtfiaoibfejginaaDoorG0PA
namespace Go.Proofs.YtfiaoibfejginaaDoor
set_option linter.unusedVariables false
set_option linter.unusedSimpArgs false
open Go Go.RowKit

theorem ones_all (x : Nat) (hx : x < 18446744073709551616) : onesI (x : Int) = ((cntN x 64 : Nat) : Int) := by
  obtain ⟨a, b, c, d, e, f, g, h, hl, rfl⟩ := byL_bytes x hx
  generalize hL : [a, b, c, d, e, f, g, h] = L at *
  have hlen : L.length = 8 := by rw [← hL]; rfl
  have hc := cnt_byL L hl
  have s1 := st1L L hl
  have hl1 : ∀ y ∈ L.map t1, y < 256 := fun y hy => by
    obtain ⟨z, hz, rfl⟩ := List.mem_map.1 hy
    exact (byte_ok z (hl z hz)).1
  have s2 := st2L (L.map t1) hl1
  have hl2 : ∀ y ∈ (L.map t1).map t2, y % 16 ≤ 4 ∧ y / 16 ≤ 4 := fun y hy => by
    obtain ⟨z, hz, rfl⟩ := List.mem_map.1 hy
    obtain ⟨u, hu, rfl⟩ := List.mem_map.1 hz
    exact ⟨(byte_ok u (hl u hu)).2.1, (byte_ok u (hl u hu)).2.2.1⟩
  have s3 := st3L ((L.map t1).map t2) hl2
  have hl2' : ∀ y ∈ (L.map t1).map t2, y < 256 := fun y hy => by have := hl2 y hy; omega
  have hA : byL (L.map t1) < 18446744073709551616 := by
    have := byL_lt _ hl1
    rw [List.length_map, hlen] at this
    exact this
  have hB : byL ((L.map t1).map t2) ≤ rpt 68 8 := by
    have := byL_le 68 _ (fun y hy => by have := hl2 y hy; omega : ∀ y ∈ (L.map t1).map t2, y ≤ 68)
    rw [List.length_map, List.length_map, hlen] at this
    exact this
  have hB' : rpt 68 8 = 4919131752989213764 := by decide
  rw [hB'] at hB
  simp only [List.length_map, hlen] at s1 s2 s3 hc
  have r85 : rpt 85 8 = 6148914691236517205 := by decide
  have r51 : rpt 51 8 = 3689348814741910323 := by decide
  have r15 : rpt 15 8 = 1085102592571150095 := by decide
  rw [r85] at s1
  rw [r51] at s2
  rw [r15] at s3
  have hp : ((L.map t1).map t2).map nib = L.map pop := by
    rw [List.map_map, List.map_map]
    rfl
  rw [hp] at s3
  have h8 : ∀ y ∈ L.map pop, y ≤ 8 := fun y hy => by
    obtain ⟨z, hz, rfl⟩ := List.mem_map.1 hy
    have := (byte_ok z (hl z hz)).2
    unfold pop
    omega
  rw [show 8 * 8 = 64 from rfl] at hc
  rw [hc]
  have q1 : IntKind.u64.wrap (bits .and .u64 ((byL L : Int) / 2) 6148914691236517205 + bits .and .u64 (byL L : Int) 6148914691236517205) = (byL (L.map t1) : Int) := by
    have h1 := bits_and_nat (byL L / 2) 6148914691236517205 (by omega) (by omega)
    have h2 := bits_and_nat (byL L) 6148914691236517205 (by omega) (by omega)
    have e1 : ((byL L / 2 : Nat) : Int) = (byL L : Int) / 2 := by omega
    rw [e1] at h1
    rw [show bits .and .u64 ((byL L : Int) / 2) 6148914691236517205 = _ from h1, show bits .and .u64 (byL L : Int) 6148914691236517205 = _ from h2, ← Int.natCast_add, s1, wrap_nat _ hA]
  generalize byL (L.map t1) = A at *
  have q2 : IntKind.u64.wrap (bits .and .u64 ((A : Int) / 4) 3689348814741910323 + bits .and .u64 (A : Int) 3689348814741910323) = (byL ((L.map t1).map t2) : Int) := by
    have h1 := bits_and_nat (A / 4) 3689348814741910323 (by omega) (by omega)
    have h2 := bits_and_nat A 3689348814741910323 (by omega) (by omega)
    have e1 : ((A / 4 : Nat) : Int) = (A : Int) / 4 := by omega
    rw [e1] at h1
    rw [show bits .and .u64 ((A : Int) / 4) 3689348814741910323 = _ from h1, show bits .and .u64 (A : Int) 3689348814741910323 = _ from h2, ← Int.natCast_add, s2, wrap_nat _ (by omega)]
  generalize byL ((L.map t1).map t2) = B at *
  have q3 : bits .and .u64 (IntKind.u64.wrap ((B : Int) / 16 + (B : Int))) 1085102592571150095 = ((byL (L.map pop) : Nat) : Int) := by
    have e1 : (B : Int) / 16 + (B : Int) = ((B / 16 + B : Nat) : Int) := by omega
    rw [e1, wrap_nat _ (by omega)]
    have h1 := bits_and_nat (B / 16 + B) 1085102592571150095 (by omega) (by omega)
    rw [show bits .and .u64 ((B / 16 + B : Nat) : Int) 1085102592571150095 = _ from h1, s3]
  simp only [onesI]
  rw [q1, q2, q3]
  clear q1 q2 q3 s1 s2 s3 hc hA hB hB' r85 r51 r15 hp hl1 hl2 hl2' hlen
  subst hL
  simp only [List.map_cons, List.map_nil, List.mem_cons, List.not_mem_nil, or_false, forall_eq_or_imp, forall_eq] at h8
  simp only [List.map_cons, List.map_nil, List.sum_cons, List.sum_nil, Nat.add_zero]
  obtain ⟨k0, k1, k2, k3, k4, k5, k6, k7⟩ := h8
  generalize pop a = p0 at *
  generalize pop b = p1 at *
  generalize pop c = p2 at *
  generalize pop d = p3 at *
  generalize pop e = p4 at *
  generalize pop f = p5 at *
  generalize pop g = p6 at *
  generalize pop h = p7 at *
  clear hl hx
  have g1 : byL [p0, p1, p2, p3, p4, p5, p6, p7] + byL [p1, p2, p3, p4, p5, p6, p7] = byL [p0 + p1, p1 + p2, p2 + p3, p3 + p4, p4 + p5, p5 + p6, p6 + p7, p7] := by
    simp only [byL, Nat.mul_zero, Nat.add_zero]
    omega
  have g2 : byL [p0 + p1, p1 + p2, p2 + p3, p3 + p4, p4 + p5, p5 + p6, p6 + p7, p7] + byL [p2 + p3, p3 + p4, p4 + p5, p5 + p6, p6 + p7, p7] = byL [p0 + p1 + (p2 + p3), p1 + p2 + (p3 + p4), p2 + p3 + (p4 + p5), p3 + p4 + (p5 + p6), p4 + p5 + (p6 + p7), p5 + p6 + p7, p6 + p7, p7] := by
    simp only [byL, Nat.mul_zero, Nat.add_zero]
    omega
  have g3 : byL [p0 + p1 + (p2 + p3), p1 + p2 + (p3 + p4), p2 + p3 + (p4 + p5), p3 + p4 + (p5 + p6), p4 + p5 + (p6 + p7), p5 + p6 + p7, p6 + p7, p7] + byL [p4 + p5 + (p6 + p7), p5 + p6 + p7, p6 + p7, p7] = byL [p0 + p1 + (p2 + p3) + (p4 + p5 + (p6 + p7)), p1 + p2 + (p3 + p4) + (p5 + p6 + p7), p2 + p3 + (p4 + p5) + (p6 + p7), p3 + p4 + (p5 + p6) + p7, p4 + p5 + (p6 + p7), p5 + p6 + p7, p6 + p7, p7] := by
    simp only [byL, Nat.mul_zero, Nat.add_zero]
    omega
  have b1 := byL_small 16 [p0 + p1, p1 + p2, p2 + p3, p3 + p4, p4 + p5, p5 + p6, p6 + p7, p7] (by omega) rfl (by
    intro y hy
    simp only [List.mem_cons, List.not_mem_nil, or_false] at hy
    omega)
  have b2 := byL_small 32 [p0 + p1 + (p2 + p3), p1 + p2 + (p3 + p4), p2 + p3 + (p4 + p5), p3 + p4 + (p5 + p6), p4 + p5 + (p6 + p7), p5 + p6 + p7, p6 + p7, p7] (by omega) rfl (by
    intro y hy
    simp only [List.mem_cons, List.not_mem_nil, or_false] at hy
    omega)
  have b3 := byL_small 64 [p0 + p1 + (p2 + p3) + (p4 + p5 + (p6 + p7)), p1 + p2 + (p3 + p4) + (p5 + p6 + p7), p2 + p3 + (p4 + p5) + (p6 + p7), p3 + p4 + (p5 + p6) + p7, p4 + p5 + (p6 + p7), p5 + p6 + p7, p6 + p7, p7] (by omega) rfl (by
    intro y hy
    simp only [List.mem_cons, List.not_mem_nil, or_false] at hy
    omega)
  have d1 := byL_div p0 [p1, p2, p3, p4, p5, p6, p7] (by omega)
  have d2 := byL_div2 (p0 + p1) (p1 + p2) [p2 + p3, p3 + p4, p4 + p5, p5 + p6, p6 + p7, p7] (by omega) (by omega)
  have d3 := byL_div4 (p0 + p1 + (p2 + p3)) (p1 + p2 + (p3 + p4)) (p2 + p3 + (p4 + p5)) (p3 + p4 + (p5 + p6)) [p4 + p5 + (p6 + p7), p5 + p6 + p7, p6 + p7, p7] (by omega) (by omega) (by omega) (by omega)
  have m3 : byL [p0 + p1 + (p2 + p3) + (p4 + p5 + (p6 + p7)), p1 + p2 + (p3 + p4) + (p5 + p6 + p7), p2 + p3 + (p4 + p5) + (p6 + p7), p3 + p4 + (p5 + p6) + p7, p4 + p5 + (p6 + p7), p5 + p6 + p7, p6 + p7, p7] % 128 = p0 + p1 + (p2 + p3) + (p4 + p5 + (p6 + p7)) := by
    show (p0 + p1 + (p2 + p3) + (p4 + p5 + (p6 + p7)) + 256 * byL [p1 + p2 + (p3 + p4) + (p5 + p6 + p7), p2 + p3 + (p4 + p5) + (p6 + p7), p3 + p4 + (p5 + p6) + p7, p4 + p5 + (p6 + p7), p5 + p6 + p7, p6 + p7, p7]) % 128 = _
    generalize byL [p1 + p2 + (p3 + p4) + (p5 + p6 + p7), p2 + p3 + (p4 + p5) + (p6 + p7), p3 + p4 + (p5 + p6) + p7, p4 + p5 + (p6 + p7), p5 + p6 + p7, p6 + p7, p7] = R
    omega
  rw [d1.symm] at g1
  rw [d2.symm] at g2
  rw [d3.symm] at g3
  generalize byL [p0, p1, p2, p3, p4, p5, p6, p7] = C at *
  generalize byL [p0 + p1, p1 + p2, p2 + p3, p3 + p4, p4 + p5, p5 + p6, p6 + p7, p7] = D at *
  generalize byL [p0 + p1 + (p2 + p3), p1 + p2 + (p3 + p4), p2 + p3 + (p4 + p5), p3 + p4 + (p5 + p6), p4 + p5 + (p6 + p7), p5 + p6 + p7, p6 + p7, p7] = E at *
  generalize byL [p0 + p1 + (p2 + p3) + (p4 + p5 + (p6 + p7)), p1 + p2 + (p3 + p4) + (p5 + p6 + p7), p2 + p3 + (p4 + p5) + (p6 + p7), p3 + p4 + (p5 + p6) + p7, p4 + p5 + (p6 + p7), p5 + p6 + p7, p6 + p7, p7] = G at *
  have f1 : (C : Int) + (C : Int) / 256 = (D : Int) := by omega
  rw [f1, wrap_nat _ (by omega)]
  have f2 : (D : Int) + (D : Int) / 65536 = (E : Int) := by omega
  rw [f2, wrap_nat _ (by omega)]
  have f3 : (E : Int) + (E : Int) / 4294967296 = (G : Int) := by omega
  rw [f3, wrap_nat _ (by omega), wrap64_nat _ (by omega), and_i64 _ (by omega), m3]
  omega

theorem cnt_members (S : BitVec 64) : cntN S.toNat 64 = (members S).length := by
  unfold cntN members
  rw [List.countP_eq_length_filter]
  rfl
/-- OnesCount64 is the number of elements. -/
theorem count_any (S : BitVec 64) (w : World) : Calls Tryd.prog 79 #[bv S] w fun e w' => e = .returned (.int .i64 ((members S).length : Int)) ∧ w' = w := by
  refine (ones_any S w).mono ?_
  rintro e w' ⟨rfl, rfl⟩
  exact ⟨ret_int (by rw [ones_all _ S.isLt, cnt_members]), rfl⟩
end Go.Proofs.YtfiaoibfejginaaDoor
