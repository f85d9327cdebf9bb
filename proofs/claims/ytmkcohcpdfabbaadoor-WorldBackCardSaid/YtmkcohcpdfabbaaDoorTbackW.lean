/- The law WorldBack: the call answers true for every set and every list of numbers. -/
import Derived.Test.YtmkcohcpdfabbaaDoorBackM
namespace Go.Proofs.YtmkcohcpdfabbaaDoor
set_option linter.unusedVariables false
set_option linter.unusedSimpArgs false
open Go Go.RowKit

/-- Theory over letters. -/
theorem th_any {n : Nat} (hn : n ≤ 6) (S : BitVec 64) (a : Option Addr) (c : Nat) (hlc : n ≤ c) (hcm : c ≤ maxLen) (w : World) {Sp : Nat → Prop} (h : StrsIn w Sp a (vocL n)) :
    Calls Tryd.prog 34 #[.slice a n c, bv S] w (TPost (thT (vocL n) (S &&& allS n)) 0 w) := by
  have h1 := wTheory_any (vocL n) S a c (by rw [vocL_len]; omega) (by rw [vocL_len]; exact hlc) hcm w (h.mono fun _ _ _ => trivial)
  have e1 : thR (vocL n) S = thT (vocL n) (S &&& allS n) := by unfold thR; rw [if_pos (vocL_B n hn), vocL_len]
  have e2 : thE (vocL n) = 0 := by unfold thE; rw [if_pos (vocL_B n hn)]
  rw [vocL_len, e1, e2] at h1
  exact h1

theorem th_same (A B : BitVec 64) (hA : A &&& allS 4 = A) (hB : B &&& allS 4 = B) : sameP (thT (vocL 4) A) (thT (vocL 4) B) = decide (A = B) := by
  by_cases h : A = B
  · rw [decide_eq_true h, sameP_true (by rw [h])]
  · rw [decide_eq_false h]
    refine sameP_false fun e => h ?_
    have h1 := mod_th (n := 4) (by omega) A
    have h2 := mod_th (n := 4) (by omega) B
    rw [hA] at h1
    rw [hB] at h2
    rw [← h1, ← h2, e]
theorem modM_in (n : Nat) (t : Tree) : modM n t &&& allS n = modM n t := by unfold modM; rw [BitVec.and_assoc, BitVec.and_self]

set_option maxRecDepth 100000 in
set_option maxHeartbeats 8000000 in
theorem back_walk (S : BitVec 64) (v : Value) (zs : List Int) (w : World) (hz : IntsAt w w.heap.size v zs) (hsg : SignsAt w) : Calls Tryd.prog 7 #[bv S, v] w fun e w' => e = .returned (.bool true) ∧ Below w.heap.size w w' := by
  have HSG := hidIt hsg
  have HZ := hidIt hz
  clear hsg hz
  go_enter Tryd.func7, Tryd.ntmps7
  go_wp2_with fail
  refine (new_any v zs w.heap.size w HZ.out (Nat.le_refl _)).mono ?_
  rintro e w1 ⟨zs1, rfl, hs1, o1, hw1⟩
  have HS1 := hidIt hs1
  have HB1 : Hid (Below w.heap.size w w1) := by rw [hw1]; exact (Below.refl _ _).alloc (Nat.le_refl _) _
  have hsz1 : w.heap.size < w1.heap.size := hs1.lt
  clear hs1 hw1 HZ
  go_wp2_with fail
  refine (sn_nat 7 (by omega) (by omega) _ _ zs1 0 _ HS1.out).mono ?_
  rintro e w2 ⟨n, q2, rfl, hm, hs2, hg2⟩
  have hn6 : n ≤ 6 := by omega
  have HS2 := hidIt hs2
  have HB2 := hidIt (only_trans (only_of_below HB1.out (some w.heap.size)) hg2)
  have hsz2 : w1.heap.size ≤ w2.heap.size := hg2.size
  clear hm hs2 hg2 HS1 HB1
  go_wp2_with fail
  refine (voc_any n (by omega) w2).mono ?_
  rintro e w3 ⟨va, vc, rfl, hvlc, hvcm, hvs, hb3⟩
  have HS3 := hidIt (HS2.out.grow (only_of_below hb3 none))
  have HB3 := hidIt (only_trans HB2.out (only_of_below hb3 _))
  have HV3 : Hid (StrsIn w3 (fun k => w.heap.size ≠ k) va (vocL n)) := hvs.mono fun k _ hk => by omega
  have hsz3 : w2.heap.size ≤ w3.heap.size := hb3.size
  have HCM := hidIt hvcm
  clear hvs hb3 HS2 HB2
  unfold maxLen at hvcm
  go_wp2_with fail
  refine (th_any hn6 S va vc hvlc HCM.out _ HV3.out).mono ?_
  rintro e w4 ⟨o, s, a, k, c, rfl, hf, hb4⟩
  have HS4 := hidIt (HS3.out.grow (only_of_below hb4 none))
  have HB4 := hidIt (only_trans HB3.out (only_of_below hb4 _))
  have HV4 := hidIt (HV3.out.go hb4)
  have HF4 : Hid (FormIn w4 (fun i => w.heap.size ≠ i) (.agg #[.int .i64 o, .string s, .slice a k c]) (thT (vocL n) (S &&& allS n))) := hf.mono fun i _ hi => by omega
  have hsz4 : w3.heap.size ≤ w4.heap.size := hb4.size
  have GT := hidIt (th_good hn6 (S &&& allS n))
  have HMT := hidIt (mod_th hn6 S)
  have HVT := hidIt (th_good hn6 (S &&& allS n)).val
  clear hf hb4 HS3 HB3 HV3
  generalize (thT (vocL n) (S &&& allS n)) = T at *
  go_wp2_with fail
  have hgr := Grows.alloc w4 (.cells #[.int .i64 o, .string s, .slice a k c] 24)
  have HK5 := hidIt (heap_alloc_new w4 (.cells #[.int .i64 o, .string s, .slice a k c] 24))
  have HS5 := hidIt (HS4.out.grow (only_of_below hgr none))
  have HB5 := hidIt (only_trans HB4.out (only_of_below hgr _))
  have HV5 := hidIt (HV4.out.go hgr)
  have HF5 := hidIt (HF4.out.go hgr)
  clear hgr HS4 HB4 HV4 HF4
  refine (mod_at hn6 GT.out _ HF5.out.free HV5.out).mono ?_
  rintro e w6 ⟨rfl, hb6⟩
  rw [HMT.out]
  generalize (w4.alloc (.cells #[.int .i64 o, .string s, .slice a k c] 24)) = w5 at *
  generalize w4.heap.size = pf at *
  have HK6 := hidIt (blk_kept HK5.out hb6)
  have HS6 := hidIt (HS5.out.grow (only_of_below hb6 none))
  have HB6 := hidIt (only_trans HB5.out (only_of_below hb6 _))
  have HV6 := hidIt (HV5.out.go hb6)
  have HF6 := hidIt (HF5.out.go hb6)
  clear hb6 HK5 HS5 HB5 HV5 HF5
  obtain ⟨f0, f1, f2⟩ := cell_of3 HK6.out
  have fl := lt_of_block HK6.out
  have hALL := fun (a : Option Addr) (c : Nat) (w : World) (S : Nat → Prop) (h : StrsIn w S a (vocL n)) => wAll_any (vocL n) (vocL_B n hn6) a c (by rw [vocL_len]; omega) w h
  rw [vocL_len] at hALL
  have HALL := hidIt hALL
  have hand := bits_and_bv S (allS n)
  clear hALL
  generalize S &&& allS n = R at *
  generalize allS n = L at *
  go_wp2_with fail
  refine (HALL.out _ _ _ _ HV6.out).mono ?_
  rintro e w' ⟨rfl, rfl⟩
  go_wp2_with fail
  refine (validate_any T _ _ HF6.out.free).mono ?_
  rintro e w7 ⟨rfl, hb7⟩
  rw [HVT.out]
  have HS7 := hidIt (HS6.out.grow (only_of_below hb7 none))
  have HB7 := hidIt (only_trans HB6.out (only_of_below hb7 _))
  clear hb7 HS6 HB6 HV6 HF6 HK6 f0 f1 f2 fl HALL HVT HMT GT hand HCM
  go_wp2_with fail
  clear hvlc hvcm hn6 hsz1 hsz2 hsz3 hsz4
  have hlt7 := HS7.out.lt
  refine (voc_any 4 (by omega) w7).mono ?_
  rintro e w8 ⟨ua, uc, rfl, hvlc, hvcm, hvs, hb8⟩
  have HS8 := hidIt (HS7.out.grow (only_of_below hb8 none))
  have HB8 := hidIt (only_trans HB7.out (only_of_below hb8 _))
  have HV8 : Hid (StrsIn w8 (fun k => w.heap.size ≠ k) ua (vocL 4)) := hvs.mono fun k _ hk => by omega
  have hlt8 := HS8.out.lt
  have HCM := hidIt hvcm
  have HLC := hidIt hvlc
  clear hvs hb8 HS7 HB7 hlt7
  unfold maxLen at hvcm
  go_wp2_with fail
  refine (sform_any 4 (by omega) (by omega) 3 (by omega) _ _ zs1 q2 w8 HS8.out).mono ?_
  rintro e w9 ⟨f, fo, fs, fa, fm, fc, q9, rfl, hf1, hf2, hf3, hs9, hg9⟩
  have GF := hidIt (goodF_gen hf1 hf2 (by omega))
  have HS9 := hidIt hs9
  have HB9 := hidIt (only_trans HB8.out hg9)
  have HV9 : Hid (StrsIn w9 (fun k => w.heap.size ≠ k) ua (vocL 4)) := HV8.out.kept fun i hi hl => hg9.block i hl (fun e => by injection e with e; omega)
  have HF9 : Hid (FormAt w9 (some w.heap.size) (.agg #[.int .i64 fo, .string fs, .slice fa fm fc]) f) := hf3.mono (fun i _ hi e => by injection e with e; omega)
  have hlt9 := HS9.out.lt
  clear hf1 hf2 hf3 hs9 hg9 HS8 HB8 HV8 hlt8
  go_wp2_with fail
  refine (sform_any 4 (by omega) (by omega) 2 (by omega) _ _ zs1 q9 w9 HS9.out).mono ?_
  rintro e w10 ⟨g, go, gs, ga, gm, gc, q10, rfl, hf1, hf2, hf3, hs10, hg10⟩
  have GG := hidIt (goodF_gen hf1 hf2 (by omega))
  have HB10 := hidIt (below_of_only (only_trans HB9.out hg10) (Nat.le_refl _))
  have HV10 : Hid (StrsIn w10 (fun k => w.heap.size ≠ k) ua (vocL 4)) := HV9.out.kept fun i hi hl => hg10.block i hl (fun e => by injection e with e; omega)
  have HF10 := hidIt (FormAt.kept HF9.out hg10).free
  have HG10 := hidIt hf3.free
  clear hf1 hf2 hf3 hs10 hg10 HS9 HB9 HV9 HF9 hlt9
  go_wp2_with fail
  obtain ⟨W, hW⟩ : ∃ W : World, W = ((w10.alloc (.cells #[.int .i64 fo, .string fs, .slice fa fm fc] 24)).alloc (.cells #[.int .i64 go, .string gs, .slice ga gm gc] 24)) := ⟨_, rfl⟩
  have hbw : Below w10.heap.size w10 W := by rw [hW]; exact ((Below.refl _ _).alloc (Nat.le_refl _) _).alloc (by simp) _
  have HKG : Hid (W.heap[w10.heap.size + 1]? = some (.cells #[.int .i64 go, .string gs, .slice ga gm gc] 24 (0, 0))) := by show _ = _; rw [hW]; exact heap_alloc_at (by simp)
  have HB11 := hidIt (HB10.out.trans (Below.mono hbw HB10.out.size))
  have HV11 := hidIt (HV10.out.go hbw)
  have HF11 := hidIt (HF10.out.go hbw)
  have HG11 := hidIt (HG10.out.go hbw)
  have HA := hidIt (modM_in 4 f)
  have HBB := hidIt (modM_in 4 g)
  rw [← hW]
  clear hbw hW HB10 HV10 HF10 HG10
  refine (mod_at (by omega) GF.out _ HF11.out HV11.out).mono ?_
  rintro e w12 ⟨rfl, hb⟩
  have HB12 := hidIt (HB11.out.trans (Below.mono hb HB11.out.size))
  have HV12 := hidIt (HV11.out.go hb)
  have HG12 := hidIt (HG11.out.go hb)
  have HK12 := hidIt (blk_kept HKG.out hb)
  clear hb HB11 HV11 HF11 HG11 HKG GF
  obtain ⟨g0, g1, g2⟩ := cell_of3 HK12.out
  have gl := lt_of_block HK12.out
  go_wp2_with fail
  clear g0 g1 g2 gl
  refine (mod_at (by omega) GG.out _ HG12.out HV12.out).mono ?_
  rintro e w13 ⟨rfl, hb⟩
  have HB13 := hidIt (HB12.out.trans (Below.mono hb HB12.out.size))
  have HV13 := hidIt (HV12.out.go hb)
  clear hb HB12 HV12 HG12 HK12 GG
  generalize modM 4 f = A at *
  generalize modM 4 g = B at *
  have HSM := hidIt (th_same A B HA.out HBB.out)
  have HEQ := hidIt (eq_bv A B)
  have HFA := hidIt (th_fmt A)
  go_wp2_with fail
  refine (th_any (n := 4) (by omega) A ua uc HLC.out HCM.out _ HV13.out).mono ?_
  rw [HA.out]
  rintro e w14 ⟨co, cs, ca, ck, cc, rfl, hf, hb⟩
  have hgr := Grows.alloc w14 (.cells #[.int .i64 co, .string cs, .slice ca ck cc] 24)
  have HK15 := hidIt (heap_alloc_new w14 (.cells #[.int .i64 co, .string cs, .slice ca ck cc] 24))
  have HB15 := hidIt ((HB13.out.trans (Below.mono hb HB13.out.size)).trans (Below.mono hgr (HB13.out.trans (Below.mono hb HB13.out.size)).size))
  have HV15 := hidIt ((HV13.out.go hb).go hgr)
  have HC15 := hidIt (hf.free.go hgr)
  clear hf hb hgr HB13 HV13
  generalize thT (vocL 4) A = C at *
  go_wp2_with fail
  generalize (w14.alloc (.cells #[.int .i64 co, .string cs, .slice ca ck cc] 24)) = w15 at *
  generalize w14.heap.size = pc at *
  refine (th_any (n := 4) (by omega) B ua uc HLC.out HCM.out _ HV15.out).mono ?_
  rw [HBB.out]
  rintro e w16 ⟨do', ds, da, dk, dc, rfl, hf, hb⟩
  have hgr := Grows.alloc w16 (.cells #[.int .i64 do', .string ds, .slice da dk dc] 24)
  have HD17 := hidIt (heap_alloc_new w16 (.cells #[.int .i64 do', .string ds, .slice da dk dc] 24))
  have HK17 := hidIt (blk_kept (blk_kept HK15.out hb) hgr)
  have HB17 := hidIt ((HB15.out.trans (Below.mono hb HB15.out.size)).trans (Below.mono hgr (HB15.out.trans (Below.mono hb HB15.out.size)).size))
  have HC17 := hidIt ((HC15.out.go hb).go hgr)
  have HE17 := hidIt (hf.free.go hgr)
  clear hf hb hgr HB15 HV15 HC15 HK15 HCM HLC
  generalize thT (vocL 4) B = D at *
  obtain ⟨c0, c1, c2⟩ := cell_of3 HK17.out
  have cl := lt_of_block HK17.out
  go_wp2_with fail
  clear c0 c1 c2 cl
  generalize (w16.alloc (.cells #[.int .i64 do', .string ds, .slice da dk dc] 24)) = w17 at *
  generalize w16.heap.size = pd at *
  refine (fformat_any C _ _ HC17.out).mono ?_
  rintro e w18 ⟨rfl, hb⟩
  have hpos : (0 : Int) < ((fmtT C).size : Int) := by have := HFA.out.2; omega
  rw [HFA.out.1]
  generalize fmtT C = tx at *
  have HB18 := hidIt (HB17.out.trans (Below.mono hb HB17.out.size))
  have HC18 := hidIt (HC17.out.go hb)
  have HE18 := hidIt (HE17.out.go hb)
  have HK18 := hidIt (blk_kept HK17.out hb)
  have HD18 := hidIt (blk_kept HD17.out hb)
  have HSG18 := hidIt (HSG.out.go HB18.out)
  clear hb HB17 HC17 HE17 HK17 HD17 HSG HFA
  obtain ⟨c0, c1, c2⟩ := cell_of3 HK18.out
  have cl := lt_of_block HK18.out
  obtain ⟨d0, d1, d2⟩ := cell_of3 HD18.out
  have dl := lt_of_block HD18.out
  have hab := HEQ.out
  have hsm := HSM.out
  obtain ⟨b, hb⟩ : ∃ b, decide (A = B) = b := ⟨_, rfl⟩
  rw [hb] at hab hsm
  clear hb HEQ HSM HA HBB
  have HQ := hidIt (qsameP_any C D _ _ _ HC18.out HE18.out)
  rw [hsm] at HQ
  clear hsm HC18 HE18 HK18 HD18
  cases b
  all_goals
    go_wp2_with fail
    refine HQ.out.mono ?_
    rintro e w19 ⟨rfl, hb⟩
    have HB19 := hidIt (HB18.out.trans (Below.mono hb HB18.out.size))
    have HSG19 := hidIt (HSG18.out.go hb)
    clear hb c0 c1 c2 cl d0 d1 d2 dl
    go_wp2_with fail
    refine (awake3_any _ HSG19.out).mono ?_
    rintro e x7 ⟨rfl, hb⟩
    have HB20 := hidIt (HB19.out.trans (Below.mono hb HB19.out.size))
    clear hb
    go_wp2_with fail
    go_ret
    exact ⟨rfl, HB20.out⟩

theorem back_any (n : Int) (v : Value) (zs : List Int) (w : World) (hn : 0 ≤ n ∧ n ≤ 18446744073709551615) (hz : IntsAt w w.heap.size v zs) (hsg : SignsAt w) : Calls Tryd.prog 7 #[.int .u64 n, v] w fun e w' => e = .returned (.bool true) ∧ Below w.heap.size w w' := by
  have e : n = ((BitVec.ofNat 64 n.toNat).toNat : Int) := by
    rw [BitVec.toNat_ofNat]
    omega
  rw [e]
  exact back_walk _ v zs w hz hsg
end Go.Proofs.YtmkcohcpdfabbaaDoor
