/- The law LabellingLattice: for every list of numbers it answers true. -/
import Derived.Test.YtbahfcefplgigaaL1L
import Derived.Test.YtbahfcefplgigaaNew
namespace Go.Proofs.Ytbahfcefplgigaa
set_option linter.unusedVariables false
set_option linter.unusedSimpArgs false
open Go Go.RowKit Go.Sort

theorem OwnI.read {w w' : World} {B b : Nat} {v : Value} {zs : List Int} (h : OwnI w B v zs) (hg : w.grownBy w' (some b)) (hb : b < B) : OwnI w' B v zs :=
  owns_kept h fun g e => hg.block g (owns_blk h g e).2 (fun e2 => by injection e2 with e2; have := (owns_blk h g e).1; omega)
theorem below_read {w a a' : World} {b : Nat} (h : Below b w a) (hg : a.grownBy a' (some b)) (hna : b ≤ a.heap.size) : Below b w a' := below_app5 h hg (fun g e => by injection e with e; omega) hna

theorem less_self (a : List Int) : lessF a a = true := lessF_iff.2 ⟨rfl, fun _ _ _ _ => rfl⟩
theorem meet_less1 {a b : List Int} (h : a.length = b.length) : lessF (meetF a b) a = true := by
  have hl := meetF_len a b
  refine lessF_iff.2 ⟨by omega, fun i h1 h2 h3 => ?_⟩
  rw [meetF_get a b i h1 h2 (by omega)] at h3 ⊢
  by_cases e : a[i] = b[i]'(by omega)
  · rw [if_pos e]
  · rw [if_neg e] at h3; omega
theorem meet_less2 {a b : List Int} (h : a.length = b.length) : lessF (meetF a b) b = true := by
  have hl := meetF_len a b
  refine lessF_iff.2 ⟨by omega, fun i h1 h2 h3 => ?_⟩
  rw [meetF_get a b i h1 (by omega) h2] at h3 ⊢
  by_cases e : a[i]'(by omega) = b[i]
  · rw [if_pos e]; exact e.symm
  · rw [if_neg e] at h3; omega
theorem less_trans {a b c : List Int} (h1 : lessF a b = true) (h2 : lessF b c = true) : lessF a c = true := by
  rw [lessF_iff] at *
  refine ⟨h1.1.trans h2.1, fun i a1 a2 h => ?_⟩
  have e1 := h1.2 i a1 (by omega) h
  have e2 := h2.2 i (by omega) a2 (by rw [e1]; exact h)
  rw [e2, e1]
theorem less_meet {a b c : List Int} (h1 : lessF c a = true) (h2 : lessF c b = true) : lessF c (meetF a b) = true := by
  rw [lessF_iff] at *
  have hl := meetF_len a b
  refine ⟨by omega, fun i a1 a2 h => ?_⟩
  have e1 := h1.2 i a1 (by omega) h
  have e2 := h2.2 i a1 (by omega) h
  rw [meetF_get a b i a2 (by omega) (by omega), e1, e2, if_pos rfl]
theorem less_antisymm {a b : List Int} (ha : LabOk a) (hb : LabOk b) (hl : a.length = b.length) : (lessF a b && lessF b a) = decide (a = b) := by
  rw [Bool.eq_iff_iff, Bool.and_eq_true, decide_eq_true_eq]
  constructor
  · rintro ⟨h1, h2⟩
    rw [lessF_iff] at h1 h2
    refine List.ext_getElem hl fun i i1 i2 => ?_
    have x1 := ha a[i] (List.getElem_mem _)
    have x2 := hb b[i] (List.getElem_mem _)
    have e1 := h1.2 i i1 i2
    have e2 := h2.2 i i2 i1
    by_cases e : a[i] = 1 ∨ a[i] = 2
    · exact (e1 e).symm
    · by_cases f : b[i] = 1 ∨ b[i] = 2
      · exact e2 f
      · omega
  · rintro rfl
    exact ⟨less_self _, less_self _⟩

/-- What the calls of LessCommitted answer, in every world that has grown from one. -/
abbrev LessC (w : World) (v1 v2 : Value) (r : Bool) : Prop := ∀ wx : World, Below w.heap.size w wx → Calls Try.prog 27 #[v1, v2] wx fun e w' => e = .returned (.bool r) ∧ Below wx.heap.size wx w'
theorem LessC.mk {w : World} {v1 v2 : Value} {xs ys : List Int} (h1 : IL w v1 xs) (h2 : IL w v2 ys) (hn : xs.length ≤ 1000) (hm : ys.length ≤ 1000) : LessC w v1 v2 (lessF xs ys) :=
  fun wx hb => lLess_any v1 v2 xs ys wx (h1.below hb) (h2.below hb) (by omega) (by omega)

set_option maxRecDepth 100000 in
set_option maxHeartbeats 1000000 in
theorem lattice_walk (lv : Value) (zs : List Int) (w : World) (hz : IntsAt w w.heap.size lv zs) :
    Calls Try.prog 6 #[lv] w fun e w' => e = .returned (.bool true) ∧ Below w.heap.size w w' := by
  have HZ := hidIt hz
  clear hz
  go_enter Try.func6, Try.ntmps6
  go_wp2_with fail
  refine (new_any lv zs w.heap.size w HZ.out (Nat.le_refl _)).mono ?_
  rintro e w1 ⟨zs', rfl, hs1, o1, rfl⟩
  have HS1 := hidIt hs1
  have HB1 := hidIt (bgrow w o1)
  have hsz1 : w.heap.size < (w.alloc o1).heap.size := hs1.lt
  clear hs1
  generalize w.alloc o1 = w1 at *
  go_wp2_with fail
  refine (sn_nat 6 (by decide) (by decide) _ _ _ _ w1 HS1.out).mono ?_
  rintro e w2 ⟨n, k2, rfl, hn, hs2, hg2⟩
  have hn6 : n < 6 := by omega
  have HS2 := hidIt hs2
  have HB2 := hidIt (below_read HB1.out hg2 (Nat.le_of_lt hsz1))
  have hsz2 : w.heap.size < w2.heap.size := Nat.lt_of_lt_of_le hsz1 hg2.size
  clear hs2 hg2 hn HS1 HB1
  go_wp2_with fail
  refine (kLabels_any n (by omega) _ _ _ _ w2 HS2.out).mono ?_
  rintro e w3 ⟨a, aa, ac, k3, rfl, hal, hao, hoa, hs3, hg3⟩
  have HAL := hidIt hal
  have HAO := hidIt hao
  have HA3 := hidIt hoa
  have HS3 := hidIt hs3
  have HB3 := hidIt (below_read HB2.out hg3 (Nat.le_of_lt hsz2))
  have hsz3 : w.heap.size < w3.heap.size := Nat.lt_of_lt_of_le hsz2 hg3.size
  clear hal hao hoa hs3 hg3 HS2 HB2
  go_wp2_with fail
  refine (kLabels_any n (by omega) _ _ _ _ w3 HS3.out).mono ?_
  rintro e w4 ⟨b, ba, bc, k4, rfl, hbl, hbo, hob, hs4, hg4⟩
  have HBL := hidIt hbl
  have HBO := hidIt hbo
  have HA4 := hidIt (HA3.out.read hg4 hsz2)
  have HBB4 := hidIt hob
  have HS4 := hidIt hs4
  have HB4 := hidIt (below_read HB3.out hg4 (Nat.le_of_lt hsz3))
  have hsz4 : w.heap.size < w4.heap.size := Nat.lt_of_lt_of_le hsz3 hg4.size
  clear hbl hbo hob hs4 hg4 HS3 HB3 HA3
  go_wp2_with fail
  refine (kLabels_any n (by omega) _ _ _ _ w4 HS4.out).mono ?_
  rintro e w5 ⟨c, ca, cc, k5, rfl, hcl, hco, hoc, hs5, hg5⟩
  have HCL := hidIt hcl
  have HCO := hidIt hco
  have HA5 := hidIt (HA4.out.read hg5 hsz2)
  have HBB5 := hidIt (HBB4.out.read hg5 hsz3)
  have HC5 := hidIt hoc
  have HB5 := hidIt (below_read HB4.out hg5 (Nat.le_of_lt hsz4))
  clear hcl hco hoc hs5 hg5 HS4 HB4 HA4 HBB4
  go_wp2_with fail
  have HMC := hidIt (lMeet_any _ _ a b w5 HA5.out.il HBB5.out.il (by have := HAL.out; omega) (by have := HBL.out; omega))
  rw [show min a.length b.length = n from by have := HAL.out; have := HBL.out; omega] at HMC
  refine HMC.out.mono ?_
  rintro e w6 ⟨mb, rfl, -, hm6, hb6⟩
  have HML : Hid ((meetF a b).length = n) := by show _ = _; rw [meetF_len]; have := HAL.out; have := HBL.out; omega
  have HM6 : Hid (IL w6 (.slice (some ⟨mb, 0, none⟩) n n) (meetF a b)) := by
    have h := hm6.il (c := n) (by have := HML.out; omega) (by unfold maxLen; omega)
    rw [HML.out] at h
    exact h
  have HA6 := hidIt (HA5.out.go hb6)
  have HBB6 := hidIt (HBB5.out.go hb6)
  have HC6 := hidIt (HC5.out.go hb6)
  have HB6 := hidIt (HB5.out.trans (Below.mono hb6 HB5.out.size))
  clear hm6 hb6 HMC HA5 HBB5 HC5 HB5
  go_wp2_with fail
  have HMC := hidIt (lMeet_any _ _ c (meetF a b) w6 HC6.out.il HM6.out (by have := HCL.out; omega) (by have := HML.out; omega))
  rw [show min c.length (meetF a b).length = n from by have := HCL.out; have := HML.out; omega] at HMC
  refine HMC.out.mono ?_
  rintro e w7 ⟨lb, rfl, -, hl7, hb7⟩
  have HLL : Hid ((meetF c (meetF a b)).length = n) := by show _ = _; rw [meetF_len]; have := HCL.out; have := HML.out; omega
  have HL7 : Hid (IL w7 (.slice (some ⟨lb, 0, none⟩) n n) (meetF c (meetF a b))) := by
    have h := hl7.il (c := n) (by have := HLL.out; omega) (by unfold maxLen; omega)
    rw [HLL.out] at h
    exact h
  have HM7 := hidIt (HM6.out.below hb7)
  have HA7 := hidIt (HA6.out.go hb7).il
  have HBB7 := hidIt (HBB6.out.go hb7).il
  have HC7 := hidIt (HC6.out.go hb7).il
  have HB7 := hidIt (HB6.out.trans (Below.mono hb7 HB6.out.size))
  clear hl7 hb7 HMC HM6 HA6 HBB6 HC6 HB6
  have la : a.length ≤ 1000 := by have := HAL.out; omega
  have lb' : b.length ≤ 1000 := by have := HBL.out; omega
  have lc : c.length ≤ 1000 := by have := HCL.out; omega
  have lm : (meetF a b).length ≤ 1000 := by have := HML.out; omega
  have ll : (meetF c (meetF a b)).length ≤ 1000 := by have := HLL.out; omega
  have Lma := hidIt (LessC.mk HM7.out HA7.out lm la)
  have Lmb := hidIt (LessC.mk HM7.out HBB7.out lm lb')
  have Laa := hidIt (LessC.mk HA7.out HA7.out la la)
  have Lla := hidIt (LessC.mk HL7.out HA7.out ll la)
  have Lca := hidIt (LessC.mk HC7.out HA7.out lc la)
  have Lcb := hidIt (LessC.mk HC7.out HBB7.out lc lb')
  have Lcm := hidIt (LessC.mk HC7.out HM7.out lc lm)
  have Lab := hidIt (LessC.mk HA7.out HBB7.out la lb')
  have Lba := hidIt (LessC.mk HBB7.out HA7.out lb' la)
  have Iab : Hid (∀ wx : World, Below w7.heap.size w7 wx → Calls Try.prog 15 #[.slice aa n ac, .slice ba n bc] wx fun e w' => e = .returned (.bool (decide (a = b))) ∧ Below wx.heap.size wx w') := fun wx hb => kInts_any _ _ a b wx (HA7.out.below hb) (HBB7.out.below hb) (by omega) (by omega)
  have hab : a.length = b.length := by have := HAL.out; have := HBL.out; omega
  have hcm : c.length = (meetF a b).length := by have := HCL.out; have := HML.out; omega
  rw [meet_less1 hab] at Lma
  rw [meet_less2 hab] at Lmb
  rw [less_self] at Laa
  rw [less_trans (meet_less2 hcm) (meet_less1 hab)] at Lla
  rw [← less_antisymm HAO.out HBO.out hab] at Iab
  have T1 := hidIt (fun h1 h2 => less_meet (a := a) (b := b) (c := c) h1 h2)
  have T2 := hidIt (fun h1 h2 => less_trans (a := c) (b := a) (c := b) h1 h2)
  have HB := hidIt (Below.refl w7.heap.size w7)
  clear la lb' lc lm ll hab hcm HML HLL HM7 HA7 HBB7 HC7 HL7 HAL HBL HCL HAO HBO HCO
  generalize meetF a b = m at *
  cases h1 : lessF c a <;> cases h2 : lessF c b <;> cases h3 : lessF a b <;> cases h4 : lessF b a
  all_goals (
    rw [h1] at Lca
    rw [h2] at Lcb
    rw [h3] at Lab
    rw [h4] at Lba
    rw [h3, h4] at Iab
    first
    | (exfalso; exact absurd ((T2.out h1 h3).symm.trans h2) (by decide))
    | ((try rw [T1.out h1 h2] at Lcm)
       clear T1 T2 h1 h2 h3 h4
       repeat (
        go_wp2_with fail
        first
        | (with_reducible refine (Lma.out _ HB.out).mono ?_; rintro e w8 ⟨rfl, hb⟩; have HB := hidIt (HB.out.trans (Below.mono hb HB.out.size)); clear hb)
        | (with_reducible refine (Lmb.out _ HB.out).mono ?_; rintro e w8 ⟨rfl, hb⟩; have HB := hidIt (HB.out.trans (Below.mono hb HB.out.size)); clear hb)
        | (with_reducible refine (Laa.out _ HB.out).mono ?_; rintro e w8 ⟨rfl, hb⟩; have HB := hidIt (HB.out.trans (Below.mono hb HB.out.size)); clear hb)
        | (with_reducible refine (Lla.out _ HB.out).mono ?_; rintro e w8 ⟨rfl, hb⟩; have HB := hidIt (HB.out.trans (Below.mono hb HB.out.size)); clear hb)
        | (with_reducible refine (Lca.out _ HB.out).mono ?_; rintro e w8 ⟨rfl, hb⟩; have HB := hidIt (HB.out.trans (Below.mono hb HB.out.size)); clear hb)
        | (with_reducible refine (Lcb.out _ HB.out).mono ?_; rintro e w8 ⟨rfl, hb⟩; have HB := hidIt (HB.out.trans (Below.mono hb HB.out.size)); clear hb)
        | (with_reducible refine (Lcm.out _ HB.out).mono ?_; rintro e w8 ⟨rfl, hb⟩; have HB := hidIt (HB.out.trans (Below.mono hb HB.out.size)); clear hb)
        | (with_reducible refine (Lab.out _ HB.out).mono ?_; rintro e w8 ⟨rfl, hb⟩; have HB := hidIt (HB.out.trans (Below.mono hb HB.out.size)); clear hb)
        | (with_reducible refine (Lba.out _ HB.out).mono ?_; rintro e w8 ⟨rfl, hb⟩; have HB := hidIt (HB.out.trans (Below.mono hb HB.out.size)); clear hb)
        | (with_reducible refine (Iab.out _ HB.out).mono ?_; rintro e w8 ⟨rfl, hb⟩; have HB := hidIt (HB.out.trans (Below.mono hb HB.out.size)); clear hb)
        | (with_reducible refine (awake11_any _).mono ?_; rintro e w8 ⟨rfl, hb⟩; have HB := hidIt (HB.out.trans (Below.mono hb HB.out.size)); clear hb))
       go_wp2_with fail
       go_ret
       exact ⟨rfl, HB7.out.trans (Below.mono HB.out HB7.out.size)⟩))
end Go.Proofs.Ytbahfcefplgigaa
