/- The law WorldTheories: the call answers true for every list of names, every set and every list of numbers. -/
import Derived.Test.YtbihnfocghcplaaGreatDoorRef3
namespace Go.Proofs.YtbihnfocghcplaaGreatDoor
set_option linter.unusedVariables false
set_option linter.unusedSimpArgs false
open Go Go.RowKit

/-- A list of names in a cell; it lies outside block b. -/
def VocCell (w : World) (b : Nat) (v : Value) : Prop := ∃ (l : List ByteArray) (a : Option Addr) (c : Nat), v = .slice a l.length c ∧ l.length ≤ 12 ∧ l.length ≤ c ∧ c ≤ maxLen ∧ StrsIn w (fun i => i ≠ b) a l
theorem VocCell.kept {w w' : World} {b : Nat} {v : Value} (h : VocCell w b v) (hg : w.grownBy w' (some b)) : VocCell w' b v := by
  obtain ⟨l, a, c, h1, h2, h3, h4, h5⟩ := h
  exact ⟨l, a, c, h1, h2, h3, h4, h5.kept fun i hi hl => hg.block i hl (fun e => hi (by injection e))⟩
theorem StrsIn.apart {w : World} {S : Nat → Prop} {a : Option Addr} {l : List ByteArray} (h : StrsIn w S a l) {b : Nat} (hb : ∀ i, i < w.heap.size → S i → i ≠ b) : StrsIn w (fun i => i ≠ b) a l := h.mono fun i hi hS => hb i hi hS

theorem cells4 {w : World} {b : Nat} {x0 x1 x2 x3 : Value} {t : TypeId} (h : w.heap[b]? = some (.cells #[x0, x1, x2, x3] t (0, 0))) (k : Nat) (hk : k < 4) {C : Value → Prop} (h0 : C x0) (h1 : C x1) (h2 : C x2) (h3 : C x3) : ∃ v, w.cell? ⟨b, k, none⟩ = some v ∧ C v := by
  rcases (by omega : k = 0 ∨ k = 1 ∨ k = 2 ∨ k = 3) with rfl | rfl | rfl | rfl
  · exact ⟨x0, by simp [World.cell?, h], h0⟩
  · exact ⟨x1, by simp [World.cell?, h], h1⟩
  · exact ⟨x2, by simp [World.cell?, h], h2⟩
  · exact ⟨x3, by simp [World.cell?, h], h3⟩

set_option maxRecDepth 100000 in
set_option maxHeartbeats 8000000 in
theorem theo_walk0 (v1 : Value) (l1 : List ByteArray) (S : BitVec 64) (v : Value) (zs : List Int) (w : World) (h1 : StrsArg w v1 l1) (hz : IntsAt w w.heap.size v zs) (hsg : SignsAt w) : Calls Tryz.prog 6 #[v1, bv S, v] w fun e w' => e = .returned (.bool true) ∧ Below w.heap.size w w' := by
  obtain ⟨a1, c1, rfl, hl1, hc1, hs1⟩ := h1
  have HSG := hidIt hsg
  have HZ := hidIt hz
  have HR := hidIt hs1
  have hlm : l1.length ≤ maxLen := Nat.le_trans hl1 hc1
  have HSH := hidIt (short3_any l1 a1 c1 hlm w hs1)
  have HC1 := hidIt hc1
  have HL1 := hidIt hl1
  clear hsg hz hs1 hlm
  unfold maxLen at hc1
  by_cases hsv : shortV l1 = true
  case neg =>
    have hsv' : shortV l1 = false := by simpa using hsv
    rw [hsv'] at HSH
    clear hsv hsv'
    go_enter Tryz.func6, Tryz.ntmps6
    go_wp2_with fail
    refine HSH.out.mono ?_
    rintro e w' ⟨rfl, rfl⟩
    go_wp2_with fail
    go_ret
    exact ⟨rfl, Below.refl _ _⟩
  case pos =>
  have h12 : l1.length ≤ 12 := by
    unfold shortV at hsv
    rw [Bool.and_eq_true, decide_eq_true_eq] at hsv
    exact hsv.2
  rw [hsv] at HSH
  clear hsv
  go_enter Tryz.func6, Tryz.ntmps6
  go_wp2_with fail
  refine HSH.out.mono ?_
  rintro e w' ⟨rfl, rfl⟩
  clear HSH
  go_wp2_with fail
  refine (new_any v zs w.heap.size w HZ.out (Nat.le_refl _)).mono ?_
  rintro e w1 ⟨zs1, rfl, hs1, o1, hw1⟩
  have HS1 := hidIt hs1
  have HG1 : Hid (w.grownBy w1 (some w.heap.size)) := by rw [hw1]; exact only_alloc (only_refl w _) _
  have hsz1 : w.heap.size < w1.heap.size := hs1.lt
  clear hs1 hw1 HZ
  go_wp2_with fail
  refine (sn_nat 7 (by omega) (by omega) _ _ zs1 0 _ HS1.out).mono ?_
  rintro e w2 ⟨n, q2, rfl, hn, hs2, hg2⟩
  have HS2 := hidIt hs2
  have HG2 := hidIt (only_trans HG1.out hg2)
  have hsz2 : w.heap.size < w2.heap.size := Nat.lt_of_lt_of_le hsz1 hg2.size
  clear hs2 hg2 HS1 HG1
  go_wp2_with fail
  refine (voc_any n (by omega) w2).mono ?_
  rintro e w3 ⟨va, vc, rfl, hvlc, hvcm, hvs, hb3⟩
  have HS3 := hidIt (HS2.out.grow (only_of_below hb3 none))
  have HG3 := hidIt (only_trans HG2.out (only_of_below hb3 _))
  have HV3 : Hid (VocCell w3 w.heap.size (.slice va n vc)) := ⟨vocL n, va, vc, by rw [vocL_len], by rw [vocL_len]; omega, by rw [vocL_len]; exact hvlc, hvcm, hvs.apart fun i _ hi => by omega⟩
  have hsz3 : w.heap.size < w3.heap.size := Nat.lt_of_lt_of_le hsz2 hb3.size
  clear hvs hb3 HS2 HG2 hvlc hvcm hn
  go_wp2_with fail
  refine (voc_any 6 (by omega) w3).mono ?_
  rintro e w4 ⟨ua, uc, rfl, hulc, hucm, hus, hb4⟩
  have HS4 := hidIt (HS3.out.grow (only_of_below hb4 none))
  have HG4 := hidIt (only_trans HG3.out (only_of_below hb4 _))
  have HV4 := hidIt (HV3.out.kept (only_of_below hb4 _))
  have HU4 : Hid (VocCell w4 w.heap.size (.slice ua 6 uc)) := ⟨vocL 6, ua, uc, by rw [vocL_len], by rw [vocL_len]; omega, by rw [vocL_len]; exact hulc, hucm, hus.apart fun i _ hi => by omega⟩
  have hsz4 : w.heap.size < w4.heap.size := Nat.lt_of_lt_of_le hsz3 hb4.size
  clear hus hb4 HS3 HG3 HV3 hulc hucm
  go_wp2_with fail
  refine (odd3_any _ _ zs1 q2 _ HS4.out).mono ?_
  rintro e w5 ⟨ol, oa, oc, q5, rfl, hol, holc, hocm, hos, hs5, hg5⟩
  have HS5 := hidIt hs5
  have HG5 := hidIt (only_trans HG4.out hg5)
  have HV5 := hidIt (HV4.out.kept hg5)
  have HU5 := hidIt (HU4.out.kept hg5)
  have HO5 : Hid (VocCell w5 w.heap.size (.slice oa ol.length oc)) := ⟨ol, oa, oc, rfl, by omega, holc, hocm, hos⟩
  have HR5 : Hid (VocCell w5 w.heap.size (.slice a1 l1.length c1)) := ⟨l1, a1, c1, rfl, h12, HL1.out, HC1.out, (HR.out.apart (b := w.heap.size) fun i hi _ => by omega).kept fun i hi hl => HG5.out.block i hl (fun e => hi (by injection e))⟩
  have hsz5 : w.heap.size < w5.heap.size := Nat.lt_of_lt_of_le hsz4 hg5.size
  have hgr : w5.grownBy (w5.alloc (.cells #[.slice a1 l1.length c1, .slice va n vc, .slice ua 6 uc, .slice oa ol.length oc] 25)) (some w.heap.size) := only_alloc (only_refl _ _) _
  have HS6 := hidIt (HS5.out.alloc (.cells #[.slice a1 l1.length c1, .slice va n vc, .slice ua 6 uc, .slice oa ol.length oc] 25))
  have HG6 := hidIt (only_trans HG5.out hgr)
  have HK6 := hidIt (heap_alloc_new w5 (.cells #[.slice a1 l1.length c1, .slice va n vc, .slice ua 6 uc, .slice oa ol.length oc] 25))
  have HCS : Hid (∀ k, k < 4 → ∃ v, (w5.alloc (.cells #[.slice a1 l1.length c1, .slice va n vc, .slice ua 6 uc, .slice oa ol.length oc] 25)).cell? ⟨w5.heap.size, k, none⟩ = some v ∧ VocCell (w5.alloc (.cells #[.slice a1 l1.length c1, .slice va n vc, .slice ua 6 uc, .slice oa ol.length oc] 25)) w.heap.size v) := fun k hk =>
    cells4 HK6.out k hk (HR5.out.kept hgr) (HV5.out.kept hgr) (HU5.out.kept hgr) (HO5.out.kept hgr)
  clear hs5 hg5 HS4 HG4 HV4 HU4 hos hol holc hocm HV5 HU5 HO5 HR5 HS5 HG5 hgr HR HC1 HL1 hsz1 hsz2 hsz3 hsz4
  go_wp2_with fail
  generalize hW6 : (w5.alloc (.cells #[.slice a1 l1.length c1, .slice va n vc, .slice ua 6 uc, .slice oa ol.length oc] 25)) = w6 at *
  clear hW6
  have hpne : w5.heap.size ≠ w.heap.size := by omega
  have hpl := lt_of_block HK6.out
  generalize w5.heap.size = pl at *
  go_loopw [30] (fun i wr => ∃ k q : Nat, k ≤ 4 ∧ i = .int .i64 k ∧ Hid (w6.grownBy wr (some w.heap.size)) ∧ Hid (SrcAt wr w.heap.size w.heap.size zs1 q)) (fun i _ => 4 - (intOf i).toNat)
  case atStart => exact ⟨0, q5, by omega, rfl, only_refl _ _, HS6.out⟩
  case round =>
    clear HS6
    obtain ⟨k, q, hk, rfl, hgr, hsrc⟩ := hrel
    have HGW := hidIt (only_trans HG6.out hgr.out)
    by_cases hlt : k < 4
    · obtain ⟨lv, c0', hvc⟩ := HCS.out k hlt
      have hb := hgr.out.block pl hpl (fun e => hpne (by injection e))
      have c0 := (World.cell?_of_block (a := ⟨pl, k, none⟩) hb).trans c0'
      obtain ⟨l, a, c, rfl, hl12, hlc, hcm, hls⟩ := hvc.kept hgr.out
      have HLS := hidIt hls
      have HCM := hidIt hcm
      have hlt0 : (k : Int) < 4 := by omega
      have hk0 : (0 : Int) ≤ (k : Int) := by omega
      unfold maxLen at hcm
      clear c0' hb hls
      go_wp2_with fail
      refine (sset_any _ _ zs1 q _ hsrc.out).mono ?_
      rintro e w7 ⟨S2, q7, rfl, hs7, hg7⟩
      have HLS7 := hidIt (HLS.out.kept fun i hi hl => hg7.block i hl (fun e => hi (by injection e)))
      have HGR7 := hidIt (only_trans hgr.out hg7)
      have HGW7 := hidIt (only_trans HGW.out hg7)
      have HB8 : Hid (Below w7.heap.size w7 (w7.alloc (.cells #[bv S, bv S2] 40))) := Grows.alloc _ _
      have HK8 := hidIt (heap_alloc_new w7 (.cells #[bv S, bv S2] 40))
      have HS7 := hidIt hs7
      clear hs7 hg7 hsrc hgr HLS HGW c0
      go_wp2_with fail
      generalize hW8 : (w7.alloc (.cells #[bv S, bv S2] 40)) = w8 at *
      clear hW8
      have hp8 := lt_of_block HK8.out
      have HCX : Hid (∀ j, j < 2 → ∃ X, w8.cell? ⟨w7.heap.size, j, none⟩ = some (bv X)) := fun j hj => by
        rcases (by omega : j = 0 ∨ j = 1) with rfl | rfl
        · exact ⟨S, cell_two0 HK8.out⟩
        · exact ⟨S2, cell_two1 HK8.out⟩
      have HLS8 := hidIt (HLS7.out.go HB8.out)
      have HS8 := hidIt (HS7.out.grow (only_of_below HB8.out none))
      have HGR8 := hidIt (only_trans HGR7.out (only_of_below HB8.out (some w.heap.size)))
      clear HB8 HLS7 HS7 HGR7 HGW7
      generalize w7.heap.size = px at *
      go_loopw [39] (fun i wq => ∃ j : Nat, j ≤ 2 ∧ i = .int .i64 j ∧ Hid (Below w8.heap.size w8 wq)) (fun i _ => 2 - (intOf i).toNat)
      case atStart => exact ⟨0, by omega, rfl, Below.refl _ _⟩
      case round =>
        obtain ⟨j, hj, rfl, hbq⟩ := hrel
        by_cases hjt : j < 2
        · obtain ⟨X, x0'⟩ := HCX.out j hjt
          have x0 := (hbq.out.cell (p := ⟨px, j, none⟩) hp8).trans x0'
          have HLQ := hidIt ((HLS8.out.go hbq.out).mono (S' := fun _ => True) fun _ _ _ => trivial)
          have hjt0 : (j : Int) < 2 := by omega
          have hj0 : (0 : Int) ≤ (j : Int) := by omega
          have h6 : l.length ≤ 1000000 := by omega
          clear x0'
          go_wp2_with fail
          refine (wTheory_any l X a c h6 hlc HCM.out _ HLQ.out).mono ?_
          rintro e w9 ⟨o, sn, a3, n3, c3, rfl, hf9, hb9⟩
          have hgr := Grows.alloc w9 (.cells #[.int .i64 o, .string sn, .slice a3 n3 c3] 24)
          have hb10 : Below wr.heap.size wr (w9.alloc (.cells #[.int .i64 o, .string sn, .slice a3 n3 c3] 24)) := hb9.alloc hb9.size _
          have HF10 := hidIt (hf9.free.go hgr)
          have HK10 := hidIt (heap_alloc_new w9 (.cells #[.int .i64 o, .string sn, .slice a3 n3 c3] 24))
          have HB10 := hidIt (hbq.out.trans (Below.mono hb10 hbq.out.size))
          have HL10 := hidIt (HLQ.out.go hb10)
          clear hf9 hb9 hgr hb10 HLQ x0
          go_wp2_with fail
          generalize (w9.alloc (.cells #[.int .i64 o, .string sn, .slice a3 n3 c3] 24)) = w10 at *
          generalize w9.heap.size = pf at *
          refine (r3Theory_any l X a c h6 hlc HCM.out _ HL10.out).mono ?_
          rintro e w11 ⟨o', sn', a4, n4, c4, rfl, hf11, hb11⟩
          have hgr := Grows.alloc w11 (.cells #[.int .i64 o', .string sn', .slice a4 n4 c4] 24)
          have hb12 : Below w10.heap.size w10 (w11.alloc (.cells #[.int .i64 o', .string sn', .slice a4 n4 c4] 24)) := hb11.alloc hb11.size _
          have HF12 := hidIt (HF10.out.go hb12)
          have HG12 := hidIt (hf11.free.go hgr)
          have HK12 := hidIt (blk_kept HK10.out hb12)
          have HD12 := hidIt (heap_alloc_new w11 (.cells #[.int .i64 o', .string sn', .slice a4 n4 c4] 24))
          have HB12 := hidIt (HB10.out.trans (Below.mono hb12 HB10.out.size))
          clear hf11 hb11 hgr hb12 HL10 HF10 HK10 HB10
          obtain ⟨f0, f1, f2⟩ := cell_of3 HK12.out
          have fl := lt_of_block HK12.out
          have hEE : (thE l != thE l) = false := bne_self_eq_false _
          generalize thR l X = T at *
          generalize thE l = E at *
          go_wp2_with fail
          refine (qsameP_any T T _ _ _ HF12.out HG12.out).mono ?_
          rintro e w13 ⟨rfl, hb⟩
          rw [sameP_true rfl]
          have HB13 := hidIt (HB12.out.trans (Below.mono hb HB12.out.size))
          clear hb f0 f1 f2 fl
          go_wp2_with fail
          go_roundw
          case rel => exact ⟨j + 1, by omega, by go_num, HB13.out⟩
          case measure => simp [intOf]; omega
        · obtain rfl : j = 2 := by omega
          have HGE := hidIt (only_trans HGR8.out (only_of_below hbq.out (some w.heap.size)))
          have HSE := hidIt (HS8.out.grow (only_of_below hbq.out none))
          go_wp2_with fail
          go_roundw
          case rel => exact ⟨k + 1, q7, by omega, by go_num, HGE.out, HSE.out⟩
          case measure => simp [intOf]; omega
    · obtain rfl : k = 4 := by omega
      have HSGW : Hid (SignsAt wr) := HSG.out.go (below_of_only HGW.out (Nat.le_refl _))
      go_wp2_with fail
      refine (awake3_any _ HSGW.out).mono ?_
      rintro e w9 ⟨rfl, hb⟩
      have HG9 := hidIt (only_trans HGW.out (only_of_below hb _))
      clear hb
      go_wp2_with fail
      go_ret
      exact ⟨rfl, below_of_only HG9.out (Nat.le_refl _)⟩

theorem theo_any (v1 : Value) (l1 : List ByteArray) (n : Int) (v : Value) (zs : List Int) (w : World) (h1 : StrsArg w v1 l1) (hn : 0 ≤ n ∧ n ≤ 18446744073709551615) (hz : IntsAt w w.heap.size v zs) (hsg : SignsAt w) : Calls Tryz.prog 6 #[v1, .int .u64 n, v] w fun e w' => e = .returned (.bool true) ∧ Below w.heap.size w w' := by
  have e : n = ((BitVec.ofNat 64 n.toNat).toNat : Int) := by
    rw [BitVec.toNat_ofNat]
    omega
  rw [e]
  exact theo_walk0 v1 l1 _ v zs w h1 hz hsg
end Go.Proofs.YtbihnfocghcplaaGreatDoor
