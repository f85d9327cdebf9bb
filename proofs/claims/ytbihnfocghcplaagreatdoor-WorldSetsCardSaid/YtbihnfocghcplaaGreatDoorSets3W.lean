/- The law WorldSets: the call answers true for every list of names, every set, every name and every list of numbers. -/
import Derived.Test.YtbihnfocghcplaaGreatDoorRef3B
namespace Go.Proofs.YtbihnfocghcplaaGreatDoor
set_option linter.unusedVariables false
set_option linter.unusedSimpArgs false
open Go Go.RowKit

theorem cells3 {w : World} {b : Nat} {x0 x1 x2 : Value} {t : TypeId} (h : w.heap[b]? = some (.cells #[x0, x1, x2] t (0, 0))) (k : Nat) (hk : k < 3) {C : Value → Prop} (h0 : C x0) (h1 : C x1) (h2 : C x2) : ∃ v, w.cell? ⟨b, k, none⟩ = some v ∧ C v := by
  rcases (by omega : k = 0 ∨ k = 1 ∨ k = 2) with rfl | rfl | rfl
  · exact ⟨x0, by simp [World.cell?, h], h0⟩
  · exact ⟨x1, by simp [World.cell?, h], h1⟩
  · exact ⟨x2, by simp [World.cell?, h], h2⟩

set_option maxRecDepth 100000 in
set_option maxHeartbeats 8000000 in
theorem sets3_walk0 (v1 : Value) (l1 : List ByteArray) (S : BitVec 64) (nm : ByteArray) (v : Value) (zs : List Int) (w : World) (h1 : StrsArg w v1 l1) (hnm : nm.size ≤ maxLen) (hz : IntsAt w w.heap.size v zs) (hsg : SignsAt w) : Calls Tryz.prog 4 #[v1, bv S, .string nm, v] w fun e w' => e = .returned (.bool true) ∧ Below w.heap.size w w' := by
  obtain ⟨a1, c1, rfl, hl1, hc1, hs1⟩ := h1
  have HSG := hidIt hsg
  have HZ := hidIt hz
  have HR := hidIt hs1
  have hlm : l1.length ≤ maxLen := Nat.le_trans hl1 hc1
  have HSH := hidIt (short3_any l1 a1 c1 hlm w hs1)
  have HC1 := hidIt hc1
  have HL1 := hidIt hl1
  clear hsg hz hs1 hlm
  unfold maxLen at hc1 hnm
  by_cases hsv : shortV l1 = true
  case neg =>
    have hsv' : shortV l1 = false := by simpa using hsv
    rw [hsv'] at HSH
    clear hsv hsv'
    go_enter Tryz.func4, Tryz.ntmps4
    go_wp2_with fail
    refine HSH.out.mono ?_
    rintro e w' ⟨rfl, rfl⟩
    go_wp2_with fail
    go_ret
    exact ⟨rfl, Below.refl _ _⟩
  case pos =>
  have h12 : l1.length ≤ 12 := by
    unfold shortV at hsv
    rw [Bool.and_eq_true, decide_eq_true_eq] at hsv
    exact hsv.2
  rw [hsv] at HSH
  clear hsv
  by_cases hnl : 60 < nm.size
  case pos =>
    have hnl' : (60 : Int) < (nm.size : Int) := by omega
    go_enter Tryz.func4, Tryz.ntmps4
    go_wp2_with fail
    refine HSH.out.mono ?_
    rintro e w' ⟨rfl, rfl⟩
    go_wp2_with fail
    go_ret
    exact ⟨rfl, Below.refl _ _⟩
  case neg =>
  have hnl' : decide ((60 : Int) < (nm.size : Int)) = false := by simp; omega
  clear hnl
  go_enter Tryz.func4, Tryz.ntmps4
  go_wp2_with fail
  refine HSH.out.mono ?_
  rintro e w' ⟨rfl, rfl⟩
  clear HSH
  go_wp2_with fail
  refine (new_any v zs w.heap.size w HZ.out (Nat.le_refl _)).mono ?_
  rintro e w1 ⟨zs1, rfl, hs1, o1, hw1⟩
  have HS1 := hidIt hs1
  have HG1 : Hid (w.grownBy w1 (some w.heap.size)) := by rw [hw1]; exact only_alloc (only_refl w _) _
  have hsz1 : w.heap.size < w1.heap.size := hs1.lt
  clear hs1 hw1 HZ hnl'
  go_wp2_with fail
  refine (sn_nat 7 (by omega) (by omega) _ _ zs1 0 _ HS1.out).mono ?_
  rintro e w2 ⟨n, q2, rfl, hn, hs2, hg2⟩
  have HS2 := hidIt hs2
  have HG2 := hidIt (only_trans HG1.out hg2)
  have hsz2 : w.heap.size < w2.heap.size := Nat.lt_of_lt_of_le hsz1 hg2.size
  clear hs2 hg2 HS1 HG1
  go_wp2_with fail
  refine (voc_any n (by omega) w2).mono ?_
  rintro e w3 ⟨va, vc, rfl, hvlc, hvcm, hvs, hb3⟩
  have HS3 := hidIt (HS2.out.grow (only_of_below hb3 none))
  have HG3 := hidIt (only_trans HG2.out (only_of_below hb3 _))
  have HV3 : Hid (VocCell w3 w.heap.size (.slice va n vc)) := ⟨vocL n, va, vc, by rw [vocL_len], by rw [vocL_len]; omega, by rw [vocL_len]; exact hvlc, hvcm, hvs.apart fun i _ hi => by omega⟩
  have hsz3 : w.heap.size < w3.heap.size := Nat.lt_of_lt_of_le hsz2 hb3.size
  clear hvs hb3 HS2 HG2 hvlc hvcm hn
  go_wp2_with fail
  refine (odd3_any _ _ zs1 q2 _ HS3.out).mono ?_
  rintro e w5 ⟨ol, oa, oc, q5, rfl, hol, holc, hocm, hos, hs5, hg5⟩
  have HS5 := hidIt hs5
  have HG5 := hidIt (only_trans HG3.out hg5)
  have HV5 := hidIt (HV3.out.kept hg5)
  have HO5 : Hid (VocCell w5 w.heap.size (.slice oa ol.length oc)) := ⟨ol, oa, oc, rfl, by omega, holc, hocm, hos⟩
  have HR5 : Hid (VocCell w5 w.heap.size (.slice a1 l1.length c1)) := ⟨l1, a1, c1, rfl, h12, HL1.out, HC1.out, (HR.out.apart (b := w.heap.size) fun i hi _ => by omega).kept fun i hi hl => HG5.out.block i hl (fun e => hi (by injection e))⟩
  have hsz5 : w.heap.size < w5.heap.size := Nat.lt_of_lt_of_le hsz3 hg5.size
  have hgr : w5.grownBy (w5.alloc (.cells #[.slice a1 l1.length c1, .slice va n vc, .slice oa ol.length oc] 25)) (some w.heap.size) := only_alloc (only_refl _ _) _
  have HS6 := hidIt (HS5.out.alloc (.cells #[.slice a1 l1.length c1, .slice va n vc, .slice oa ol.length oc] 25))
  have HG6 := hidIt (only_trans HG5.out hgr)
  have HK6 := hidIt (heap_alloc_new w5 (.cells #[.slice a1 l1.length c1, .slice va n vc, .slice oa ol.length oc] 25))
  have HCS : Hid (∀ k, k < 3 → ∃ v, (w5.alloc (.cells #[.slice a1 l1.length c1, .slice va n vc, .slice oa ol.length oc] 25)).cell? ⟨w5.heap.size, k, none⟩ = some v ∧ VocCell (w5.alloc (.cells #[.slice a1 l1.length c1, .slice va n vc, .slice oa ol.length oc] 25)) w.heap.size v) := fun k hk =>
    cells3 HK6.out k hk (HR5.out.kept hgr) (HV5.out.kept hgr) (HO5.out.kept hgr)
  clear hs5 hg5 HS3 HG3 HV3 hos hol holc hocm HV5 HO5 HR5 HS5 HG5 hgr HR HC1 HL1 hsz1 hsz2 hsz3
  go_wp2_with fail
  generalize hW6 : (w5.alloc (.cells #[.slice a1 l1.length c1, .slice va n vc, .slice oa ol.length oc] 25)) = w6 at *
  clear hW6
  have hpne : w5.heap.size ≠ w.heap.size := by omega
  have hpl := lt_of_block HK6.out
  generalize w5.heap.size = pl at *
  go_loopw [34] (fun i wr => ∃ k q : Nat, k ≤ 3 ∧ i = .int .i64 k ∧ Hid (w6.grownBy wr (some w.heap.size)) ∧ Hid (SrcAt wr w.heap.size w.heap.size zs1 q)) (fun i _ => 3 - (intOf i).toNat)
  case atStart => exact ⟨0, q5, by omega, rfl, only_refl _ _, HS6.out⟩
  case round =>
    clear HS6
    obtain ⟨k, q, hk, rfl, hgr, hsrc⟩ := hrel
    have HGW := hidIt (only_trans HG6.out hgr.out)
    by_cases hlt : k < 3
    · obtain ⟨lv, c0', hvc⟩ := HCS.out k hlt
      have hb := hgr.out.block pl hpl (fun e => hpne (by injection e))
      have c0 := (World.cell?_of_block (a := ⟨pl, k, none⟩) hb).trans c0'
      obtain ⟨l, a, c, rfl, hl12, hlc, hcm, hls⟩ := hvc.kept hgr.out
      have HLS := hidIt hls
      have HLT := hidIt (hls.mono (S' := fun _ => True) fun _ _ _ => trivial)
      have h6 : l.length ≤ 1000000 := by omega
      have hlt0 : (k : Int) < 3 := by omega
      have hk0 : (0 : Int) ≤ (k : Int) := by omega
      unfold maxLen at hcm
      have hvv : (vocB l != vocB l) = false := bne_self_eq_false _
      have haa : (((allR l).toNat : Int) != ((allR l).toNat : Int)) = false := bne_self_eq_false _
      have HV1 := hidIt (fun w (h : StrsIn w (fun _ => True) a l) => wvalid_any l a c h6 w h)
      have HV2 := hidIt (fun w (h : StrsIn w (fun _ => True) a l) => r3valid_any l a c h6 w h)
      have HA1 := hidIt (fun w (h : StrsIn w (fun _ => True) a l) => wAllR_any l a c h6 w h)
      have HA2 := hidIt (fun w (h : StrsIn w (fun _ => True) a l) => r3all_any l a c h6 w h)
      generalize vocB l = VB at *
      generalize allR l = AR at *
      clear c0' hb hls
      go_wp2_with fail
      refine (HV1.out _ HLT.out).mono ?_
      rintro e w' ⟨rfl, rfl⟩
      go_wp2_with fail
      refine (HV2.out _ HLT.out).mono ?_
      rintro e x1 ⟨rfl, hb1⟩
      have HLT1 := hidIt (HLT.out.go hb1)
      have HBX1 := hidIt hb1
      clear hb1
      go_wp2_with fail
      refine (HA1.out _ HLT1.out).mono ?_
      rintro e w' ⟨rfl, rfl⟩
      go_wp2_with fail
      refine (HA2.out _ HLT1.out).mono ?_
      rintro e x2 ⟨rfl, hb2⟩
      have HBX := hidIt (HBX1.out.trans (Below.mono hb2 HBX1.out.size))
      clear hb2 HBX1 HLT1 HLT HV1 HV2 HA1 HA2
      have HSX := hidIt (hsrc.out.grow (only_of_below HBX.out none))
      have HLX := hidIt (HLS.out.go HBX.out)
      have HGRX := hidIt (only_trans hgr.out (only_of_below HBX.out (some w.heap.size)))
      clear HBX hsrc hgr HLS HGW c0 hvc
      go_wp2_with fail
      refine (sset_any _ _ zs1 q _ HSX.out).mono ?_
      rintro e w7 ⟨S2, q7, rfl, hs7, hg7⟩
      have HLS7 := hidIt (HLX.out.kept fun i hi hl => hg7.block i hl (fun e => hi (by injection e)))
      have HGR7 := hidIt (only_trans HGRX.out hg7)
      have HB8 : Hid (Below w7.heap.size w7 (w7.alloc (.cells #[bv S, bv S2, .int .u64 0, .int .u64 18446744073709551615] 40))) := Grows.alloc _ _
      have HK8 := hidIt (heap_alloc_new w7 (.cells #[bv S, bv S2, .int .u64 0, .int .u64 18446744073709551615] 40))
      have HS8 := hidIt (hs7.grow (only_of_below HB8.out none))
      have HLS8 := hidIt ((HLS7.out.go HB8.out).mono (S' := fun _ => True) fun _ _ _ => trivial)
      have HGR8 := hidIt (only_trans HGR7.out (only_of_below HB8.out (some w.heap.size)))
      clear hs7 hg7 HSX HLX HGRX HLS7 HGR7 HB8
      go_wp2_with fail
      generalize hW8 : (w7.alloc (.cells #[bv S, bv S2, .int .u64 0, .int .u64 18446744073709551615] 40)) = w8 at *
      clear hW8
      have hp8 := lt_of_block HK8.out
      have HCX : Hid (∀ j, j < 4 → ∃ v, w8.cell? ⟨w7.heap.size, j, none⟩ = some v ∧ ∃ X, v = bv X) := fun j hj => cells4 HK8.out j hj ⟨_, rfl⟩ ⟨_, rfl⟩ ⟨0#64, rfl⟩ ⟨BitVec.allOnes 64, rfl⟩
      generalize w7.heap.size = px at *
      go_loopw [55] (fun i wq => ∃ j : Nat, j ≤ 4 ∧ i = .int .i64 j ∧ Hid (Below w8.heap.size w8 wq)) (fun i _ => 4 - (intOf i).toNat)
      case atStart => exact ⟨0, by omega, rfl, Below.refl _ _⟩
      case round =>
        obtain ⟨j, hj, rfl, hbq⟩ := hrel
        by_cases hjt : j < 4
        · obtain ⟨xv, x0', X, rfl⟩ := HCX.out j hjt
          have x0 := (hbq.out.cell (p := ⟨px, j, none⟩) hp8).trans x0'
          have HLQ := hidIt (HLS8.out.go hbq.out)
          have hjt0 : (j : Int) < 4 := by omega
          have hj0 : (0 : Int) ≤ (j : Int) := by omega
          have hcc : (((cntS X 64 : Nat) : Int) != ((cntS X 64 : Nat) : Int)) = false := bne_self_eq_false _
          have hff : (((forR l X nm).toNat : Int) != ((forR l X nm).toNat : Int)) = false := bne_self_eq_false _
          have HW1 := hidIt (fun w (h : StrsIn w (fun _ => True) a l) => wworlds_any l X a c h6 w h)
          have HW2 := hidIt (fun w (h : StrsIn w (fun _ => True) a l) => r3worlds_any l X a c h6 w h)
          have HZ1 := hidIt (wsize_all X)
          have HZ2 := hidIt (r3size_any X)
          have HF1 := hidIt (fun s w (h : StrsIn w (fun _ => True) a l) => wforgetR_any l X s a c h6 w h)
          have HF2 := hidIt (fun s w (h : StrsIn w (fun _ => True) a l) => r3forget_any l X s a c h6 w h)
          have HWL : Hid ((worldsR l X).length ≤ 1000000) := by
            show _ ≤ _
            unfold worldsR
            split
            · rename_i hv
              have := worldsN_len X (2 ^ l.length)
              have := pow_le64 (vocB_len hv)
              omega
            · simp
          generalize worldsR l X = WL at *
          generalize cntS X 64 = CN at *
          clear x0'
          go_wp2_with fail
          refine (HW1.out _ HLQ.out).mono ?_
          rintro e y1 ⟨u1, rfl, hr1, hb1⟩
          have HL1' := hidIt (HLQ.out.go hb1)
          have HBY1 := hidIt hb1
          have HR1 := hidIt hr1
          clear hr1 hb1
          go_wp2_with fail
          refine (HW2.out _ HL1'.out).mono ?_
          rintro e y2 ⟨u2, rfl, hr2, hb2⟩
          have HL2' := hidIt (HL1'.out.go hb2)
          have HBY2 := hidIt (HBY1.out.trans (Below.mono hb2 HBY1.out.size))
          have HR1' := hidIt (HR1.out.go hb2)
          have HR2 := hidIt hr2
          clear hr2 hb2 HL1' HBY1 HR1
          go_wp2_with fail
          refine (kints_true WL u1 u2 _ HR1'.out HR2.out HWL.out).mono ?_
          rintro e y3 ⟨rfl, hb3⟩
          have HL3' := hidIt (HL2'.out.go hb3)
          have HBY3 := hidIt (HBY2.out.trans (Below.mono hb3 HBY2.out.size))
          clear hb3 HL2' HBY2 HR1' HR2
          go_wp2_with fail
          refine (HZ1.out _).mono ?_
          rintro e w' ⟨rfl, rfl⟩
          go_wp2_with fail
          refine (HZ2.out _).mono ?_
          rintro e y4 ⟨rfl, hb4⟩
          have HL4' := hidIt (HL3'.out.go hb4)
          have HBY4 := hidIt (HBY3.out.trans (Below.mono hb4 HBY3.out.size))
          clear hb4 HL3' HBY3
          go_wp2_with fail
          refine (HF1.out nm _ HL4'.out).mono ?_
          rintro e y5 ⟨rfl, hb5⟩
          have HL5' := hidIt (HL4'.out.go hb5)
          have HBY5 := hidIt (HBY4.out.trans (Below.mono hb5 HBY4.out.size))
          clear hb5 HL4' HBY4
          go_wp2_with fail
          refine (HF2.out nm _ HL5'.out).mono ?_
          rintro e y6 ⟨rfl, hb6⟩
          have HL6' := hidIt (HL5'.out.go hb6)
          have HBY6 := hidIt (HBY5.out.trans (Below.mono hb6 HBY5.out.size))
          have HBQ6 := hidIt (hbq.out.trans (Below.mono HBY6.out hbq.out.size))
          clear hb6 HL5' HBY5 HBY6 HLQ hbq HW1 HW2 HZ1 HZ2
          generalize forR l X nm = FR at *
          go_wp2_with fail
          clear hff hcc x0
          go_loopw [87] (fun i wz => ∃ m : Nat, m ≤ l.length ∧ i = .int .i64 m ∧ Hid (Below y6.heap.size y6 wz)) (fun i _ => l.length - (intOf i).toNat)
          case atStart => exact ⟨0, by omega, rfl, Below.refl _ _⟩
          case round =>
            obtain ⟨m, hm, rfl, hbz⟩ := hrel
            by_cases hml : m < l.length
            · have HLZ := hidIt (HL6'.out.go hbz.out)
              obtain ⟨bb, off, ea, z0, hzs⟩ := HLZ.out.at m hml
              subst ea
              have hml0 : (m : Int) < (l.length : Int) := by omega
              have hm0 : (0 : Int) ≤ (m : Int) := by omega
              have hff : (((forR l X l[m]).toNat : Int) != ((forR l X l[m]).toNat : Int)) = false := bne_self_eq_false _
              have HG1 := hidIt (HF1.out l[m])
              have HG2 := hidIt (HF2.out l[m])
              generalize forR l X l[m] = FR2 at *
              generalize l[m] = xn at *
              go_wp2_with fail
              refine (HG1.out _ HLZ.out).mono ?_
              rintro e z1 ⟨rfl, hb1⟩
              have HLZ1 := hidIt (HLZ.out.go hb1)
              have HBZ1 := hidIt (hbz.out.trans (Below.mono hb1 hbz.out.size))
              clear hb1
              go_wp2_with fail
              refine (HG2.out _ HLZ1.out).mono ?_
              rintro e z2 ⟨rfl, hb2⟩
              have HBZ2 := hidIt (HBZ1.out.trans (Below.mono hb2 HBZ1.out.size))
              clear hb2
              go_wp2_with fail
              go_roundw
              case rel => exact ⟨m + 1, by omega, by go_num, HBZ2.out⟩
              case measure => simp [intOf]; omega
            · obtain rfl : m = l.length := by omega
              have HBQ7 := hidIt (HBQ6.out.trans (hbz.out.mono HBQ6.out.size))
              go_wp2_with fail
              go_roundw
              case rel => exact ⟨j + 1, by omega, by go_num, HBQ7.out⟩
              case measure => simp [intOf]; omega
        · obtain rfl : j = 4 := by omega
          have HGE := hidIt (only_trans HGR8.out (only_of_below hbq.out (some w.heap.size)))
          have HSE := hidIt (HS8.out.grow (only_of_below hbq.out none))
          go_wp2_with fail
          go_roundw
          case rel => exact ⟨k + 1, q7, by omega, by go_num, HGE.out, HSE.out⟩
          case measure => simp [intOf]; omega
    · obtain rfl : k = 3 := by omega
      have HSGW : Hid (SignsAt wr) := HSG.out.go (below_of_only HGW.out (Nat.le_refl _))
      go_wp2_with fail
      refine (awake3_any _ HSGW.out).mono ?_
      rintro e w9 ⟨rfl, hb⟩
      have HG9 := hidIt (only_trans HGW.out (only_of_below hb _))
      clear hb
      go_wp2_with fail
      go_ret
      exact ⟨rfl, below_of_only HG9.out (Nat.le_refl _)⟩

theorem sets3_any (v1 : Value) (l1 : List ByteArray) (n : Int) (nm : ByteArray) (v : Value) (zs : List Int) (w : World) (h1 : StrsArg w v1 l1) (hn : 0 ≤ n ∧ n ≤ 18446744073709551615) (hnm : nm.size ≤ maxLen) (hz : IntsAt w w.heap.size v zs) (hsg : SignsAt w) : Calls Tryz.prog 4 #[v1, .int .u64 n, .string nm, v] w fun e w' => e = .returned (.bool true) ∧ Below w.heap.size w w' := by
  have e : n = ((BitVec.ofNat 64 n.toNat).toNat : Int) := by
    rw [BitVec.toNat_ofNat]
    omega
  rw [e]
  exact sets3_walk0 v1 l1 _ nm v zs w h1 hnm hz hsg
end Go.Proofs.YtbihnfocghcplaaGreatDoor
