/- The law LabellingOrders: for any two lists and every list of numbers it answers true. -/
import Derived.Test.YtbahfcefplgigaaL1M
namespace Go.Proofs.Ytbahfcefplgigaa
set_option linter.unusedVariables false
set_option linter.unusedSimpArgs false
open Go Go.RowKit Go.Sort

/-- A list of lists that has been laid whole: its cells are lists that read as known ones. -/
theorem ll_blk {w : World} {b c : Nat} {vs : List Value} {zss : List (List Int)} {t : TypeId} (h : w.heap[b]? = some (.cells vs.toArray t (0, 0))) (hl : vs.length = zss.length) (hc : zss.length ≤ c) (hm : c ≤ maxLen) (hi : ∀ i (h1 : i < vs.length) (h2 : i < zss.length), IL w vs[i] zss[i]) : LL w (.slice (some ⟨b, 0, none⟩) zss.length c) zss :=
  .inr ⟨b, 0, c, rfl, hc, hm, lt_of_block h, fun i h2 => ⟨vs[i]'(by omega), by simp [World.cell?, h, show i < vs.length by omega], hi i (by omega) h2⟩⟩

theorem IL.cut {w : World} {a : Option Addr} {n c k : Nat} {zs : List Int} (h : IL w (.slice a n c) zs) (hk : k ≤ zs.length) : IL w (.slice a k c) (zs.take k) := by
  rcases h with ⟨h, rfl⟩ | ⟨b, off, cap, h1, h2, h3, h4, h5⟩
  · injection h with h1 h2 h3
    subst h1 h3
    obtain rfl : k = 0 := by simpa using hk
    exact .inl ⟨rfl, rfl⟩
  · injection h1 with h1 h6 h7
    subst h1 h7
    have hl : (zs.take k).length = k := by rw [List.length_take]; omega
    refine .inr ⟨b, off, c, by rw [hl], by omega, h3, h4, fun i hi => ?_⟩
    rw [List.getElem_take]
    exact h5 i (by omega)
theorem IL.room {w : World} {a : Option Addr} {n c : Nat} {zs : List Int} (h : IL w (.slice a n c) zs) : zs.length ≤ c ∧ c ≤ maxLen := by
  rcases h with ⟨h, rfl⟩ | ⟨b, off, cap, h1, h2, h3, h4, h5⟩
  · exact ⟨Nat.zero_le _, by injection h with _ _ h3; subst h3; exact Nat.zero_le _⟩
  · injection h1 with h1 h6 h7
    subst h7
    exact ⟨h2, h3⟩
theorem IL.addr {w : World} {a : Option Addr} {n c : Nat} {zs : List Int} (h : IL w (.slice a n c) zs) (h0 : 0 < zs.length) : ∃ b off, a = some ⟨b, off, none⟩ := by
  rcases h with ⟨h, rfl⟩ | ⟨b, off, cap, h1, h2, h3, h4, h5⟩
  · cases h0
  · injection h1 with h1 h6 h7
    exact ⟨b, off, h1⟩
/-- A list of lists, all short. -/
def Sh (zss : List (List Int)) : Prop := ∀ i (h : i < zss.length), zss[i].length ≤ 60

set_option maxRecDepth 100000 in
set_option maxHeartbeats 4000000 in
theorem orders_walk (v1 : Value) (a : List Int) (v2 : Value) (b : List Int) (lv : Value) (zs : List Int) (w : World) (h1 : IL w v1 a) (h2 : IL w v2 b) (hz : IntsAt w w.heap.size lv zs) :
    Calls Try.prog 5 #[v1, v2, lv] w fun e w' => e = .returned (.bool true) ∧ Below w.heap.size w w' := by
  have HZ := hidIt hz
  have H1 := hidIt h1
  have H2 := hidIt h2
  obtain ⟨aa, ac, rfl, -⟩ := h1.form
  obtain ⟨ba, bc, rfl, -⟩ := h2.form
  clear hz h1 h2
  by_cases la : 60 < a.length
  · have la' : (60 : Int) < (a.length : Int) := by omega
    go_enter Try.func5, Try.ntmps5
    go_wp2_with fail
    go_ret
    exact ⟨rfl, Below.refl _ _⟩
  by_cases lb : 60 < b.length
  · have la' : ¬ (60 : Int) < (a.length : Int) := by omega
    have lb' : (60 : Int) < (b.length : Int) := by omega
    go_enter Try.func5, Try.ntmps5
    go_wp2_with fail
    go_ret
    exact ⟨rfl, Below.refl _ _⟩
  have la' : ¬ (60 : Int) < (a.length : Int) := by omega
  have lb' : ¬ (60 : Int) < (b.length : Int) := by omega
  have HLA : Hid (a.length ≤ 60) := by show _ ≤ _; omega
  have HLB : Hid (b.length ≤ 60) := by show _ ≤ _; omega
  clear la lb
  go_enter Try.func5, Try.ntmps5
  go_wp2_with fail
  clear la' lb'
  refine (new_any lv zs w.heap.size w HZ.out (Nat.le_refl _)).mono ?_
  rintro e w1 ⟨zs', rfl, hs1, o1, rfl⟩
  have HS1 := hidIt hs1
  have HB1 := hidIt (bgrow w o1)
  have hsz1 : w.heap.size < (w.alloc o1).heap.size := hs1.lt
  clear hs1
  generalize w.alloc o1 = w1 at *
  go_wp2_with fail
  refine (kLabels_any 6 (by decide) _ _ _ _ w1 HS1.out).mono ?_
  rintro e w2 ⟨x, xa, xc, k2, rfl, hxl, -, hox, hs2, hg2⟩
  have HXL := hidIt hxl
  have HX2 := hidIt hox
  have HS2 := hidIt hs2
  have HB2 := hidIt (below_read HB1.out hg2 (Nat.le_of_lt hsz1))
  have hsz2 : w.heap.size < w2.heap.size := Nat.lt_of_lt_of_le hsz1 hg2.size
  clear hxl hox hs2 hg2 HS1 HB1
  go_wp2_with fail
  refine (kLabels_any 6 (by decide) _ _ _ _ w2 HS2.out).mono ?_
  rintro e w3 ⟨y, ya, yc, k3, rfl, hyl, -, hoy, hs3, hg3⟩
  have HYL := hidIt hyl
  have HX3 := hidIt (HX2.out.read hg3 hsz1)
  have HY3 := hidIt hoy
  have HS3 := hidIt hs3
  have HB3 := hidIt (below_read HB2.out hg3 (Nat.le_of_lt hsz2))
  have hsz3 : w.heap.size < w3.heap.size := Nat.lt_of_lt_of_le hsz2 hg3.size
  clear hyl hoy hs3 hg3 HS2 HB2 HX2
  go_wp2_with fail
  refine (sn_nat 7 (by decide) (by decide) _ _ _ _ w3 HS3.out).mono ?_
  rintro e w4 ⟨n, k4, rfl, hn, hs4, hg4⟩
  have hn6 : n ≤ 6 := by omega
  have HX4 := hidIt (HX3.out.read hg4 hsz1).il
  have HY4 := hidIt (HY3.out.read hg4 hsz2).il
  have HB4 := hidIt (below_read HB3.out hg4 (Nat.le_of_lt hsz3))
  clear hn hs4 hg4 HS3 HB3 HX3 HY3
  obtain ⟨xb, xo, rfl⟩ := HX4.out.addr (by have := HXL.out; omega)
  have hxr := HX4.out.room
  have hxc : n ≤ xc := by have := HXL.out; omega
  have hxm : xc ≤ maxLen := hxr.2
  unfold maxLen at hxm
  have hxcI : (n : Int) ≤ (xc : Int) := by omega
  have hn0 : (0 : Int) ≤ (n : Int) := by omega
  have HP4 := hidIt (HX4.out.cut (k := n) (by have := HXL.out; omega))
  have hg5 := bgrow w4 (.cells #[.slice aa a.length ac, .slice (some ⟨xb, xo, none⟩) 6 xc, .slice (some ⟨xb, xo, none⟩) n xc] 22)
  have HLL : Hid (LL (w4.alloc (.cells #[.slice aa a.length ac, .slice (some ⟨xb, xo, none⟩) 6 xc, .slice (some ⟨xb, xo, none⟩) n xc] 22)) (.slice (some ⟨w4.heap.size, 0, none⟩) 3 3) [a, x, x.take n]) :=
    ll_blk (zss := [a, x, x.take n]) (heap_alloc_new w4 _) rfl (Nat.le_refl 3) (by decide) (fun i h1 h2 => by
      match i, h1 with
      | 0, _ => exact (H1.out.below HB4.out).below hg5
      | 1, _ => exact HX4.out.below hg5
      | 2, _ => exact HP4.out.below hg5)
  have HSH : Hid (Sh [a, x, x.take n]) := fun i h => by
    match i, h with
    | 0, _ => exact HLA.out
    | 1, _ => show x.length ≤ 60; have := HXL.out; omega
    | 2, _ => show (x.take n).length ≤ 60; rw [List.length_take]; omega
  have HY5 := hidIt (HY4.out.below hg5)
  have HB5 := hidIt (HB4.out.trans (Below.mono hg5 HB4.out.size))
  have H25 := hidIt (H2.out.below HB5.out)
  clear hg5 HX4 HY4 HB4 HP4 H1 H2 hxr
  go_upto_region 6 with (fail)
  generalize (w4.alloc (.cells #[.slice aa a.length ac, .slice (some ⟨xb, xo, none⟩) 6 xc, .slice (some ⟨xb, xo, none⟩) n xc] 22)) = w5 at *
  generalize w4.heap.size = G at *
  clear hxc hxm hxcI hn0 hn6
  generalize [a, x, x.take n] = pss at *
  obtain ⟨lc, lcap, hle, hll⟩ := HLL.out.form
  injection hle with hle1 hle2 hle3
  subst hle1 hle3
  have HPL : Hid (3 = pss.length) := hle2
  have HLC := hidIt hll
  clear hle2 hll HLL
  go_loopw [11, 13, 36, 48] (fun _ _ i _ wr => ∃ k : Nat, k ≤ 3 ∧ i = .int .i64 k ∧ Hid (Below w5.heap.size w5 wr)) (fun _ _ i _ _ => 3 - (intOf i).toNat)
  case atStart => exact ⟨0, Nat.zero_le _, (by first | rfl | trivial), Below.refl _ _⟩
  case round =>
    obtain ⟨k, hk, rfl, HB⟩ := hrel
    have hkI0 : (0 : Int) ≤ (k : Int) := by omega
    by_cases hlt : k < 3
    · have hkI : (k : Int) < 3 := by omega
      have hkp : k < pss.length := by have := HPL.out; omega
      obtain ⟨gb, go, u, hgu, lu, cu, iu⟩ := HLC.out k hkp
      injection hgu with hgu
      injection hgu with hgu1 hgu2
      subst hgu1 hgu2
      have cu2 := (Below.cell (p := ⟨G, 0 + k, none⟩) HB.out lu).trans cu
      rw [Nat.zero_add] at cu2
      have lu2 := Nat.lt_of_lt_of_le lu HB.out.size
      have HPP := hidIt (iu.below HB.out)
      have HPQ := hidIt (HSH.out k hkp)
      generalize pss[k] = p at *
      have HYr := hidIt (HY5.out.below HB.out)
      obtain ⟨pa, pc, rfl, -⟩ := HPP.out.form
      clear cu lu iu hkp
      go_wp2_with fail
      refine (rlMeet_any _ _ p y wr HPP.out HYr.out (by have := HPQ.out; omega) (by have := HYL.out; omega)).mono ?_
      rintro e w8 ⟨ma, mc, rfl, hom, hb8⟩
      have HML := hidIt (meetF_len p y)
      obtain ⟨ml, hml⟩ : ∃ ml, ml = min p.length y.length := ⟨_, rfl⟩
      have HMM := hidIt hml
      rw [← hml] at hom ⊢
      have hml6 : ml ≤ 60 := by have := HPQ.out; omega
      clear hml
      have hom2 := hom.il
      generalize meetF p y = m at *
      have hg9 := bgrow w8 (.cells #[.slice ba b.length bc, .slice ya 6 yc, .slice pa p.length pc, .slice ma ml mc] 22)
      have HP9 := hidIt ((HPP.out.below hb8).below hg9)
      have HB9 := hidIt ((HB.out.trans (Below.mono hb8 HB.out.size)).trans (Below.mono hg9 (Nat.le_trans HB.out.size hb8.size)))
      have HLL : Hid (LL (w8.alloc (.cells #[.slice ba b.length bc, .slice ya 6 yc, .slice pa p.length pc, .slice ma ml mc] 22)) (.slice (some ⟨w8.heap.size, 0, none⟩) 4 4) [b, y, p, m]) :=
        ll_blk (zss := [b, y, p, m]) (heap_alloc_new w8 _) rfl (Nat.le_refl 4) (by decide) (fun i h1 h2 => by
          match i, h1 with
          | 0, _ => exact H25.out.below HB9.out
          | 1, _ => exact (HYr.out.below hb8).below hg9
          | 2, _ => exact HP9.out
          | 3, _ => exact hom2.below hg9)
      have HSQ : Hid (Sh [b, y, p, m]) := fun i h => by
        match i, h with
        | 0, _ => exact HLB.out
        | 1, _ => show y.length ≤ 60; have := HYL.out; omega
        | 2, _ => exact HPQ.out
        | 3, _ => show m.length ≤ 60; rw [HML.out, ← HMM.out]; exact hml6
      clear hg9 hb8 hom hom2 HPP HYr HB cu2 lu2
      go_upto_region 9 with (fail)
      generalize (w8.alloc (.cells #[.slice ba b.length bc, .slice ya 6 yc, .slice pa p.length pc, .slice ma ml mc] 22)) = w9 at *
      generalize w8.heap.size = Q at *
      clear hml6 HML HMM
      generalize [b, y, p, m] = qss at *
      obtain ⟨ld, lcaq, hle, hll⟩ := HLL.out.form
      injection hle with hle1 hle2 hle3
      subst hle1 hle3
      have HQL : Hid (4 = qss.length) := hle2
      have HLD := hidIt hll
      clear hle2 hll HLL
      go_loopw [13, 48] (fun _ i wr => ∃ j : Nat, j ≤ 4 ∧ i = .int .i64 j ∧ Hid (Below w9.heap.size w9 wr)) (fun _ i _ => 4 - (intOf i).toNat)
      case atStart => exact ⟨0, Nat.zero_le _, (by first | rfl | trivial), Below.refl _ _⟩
      case round =>
        obtain ⟨j, hj, rfl, HB⟩ := hrel
        have hjI0 : (0 : Int) ≤ (j : Int) := by omega
        by_cases hlt2 : j < 4
        · have hjI : (j : Int) < 4 := by omega
          have hjp : j < qss.length := by have := HQL.out; omega
          obtain ⟨gb, go, u, hgu, lu, cu, iu⟩ := HLD.out j hjp
          injection hgu with hgu
          injection hgu with hgu1 hgu2
          subst hgu1 hgu2
          have cu2 := (Below.cell (p := ⟨Q, 0 + j, none⟩) HB.out lu).trans cu
          rw [Nat.zero_add] at cu2
          have lu2 := Nat.lt_of_lt_of_le lu HB.out.size
          have HQQ := hidIt (iu.below HB.out)
          have HQN := hidIt (HSQ.out j hjp)
          generalize qss[j] = q at *
          have HPP := hidIt (HP9.out.below HB.out)
          obtain ⟨qa, qc, rfl, -⟩ := HQQ.out.form
          clear cu lu iu hjp
          have LP : p.length ≤ 1000000 := by have := HPQ.out; omega
          have LQ : q.length ≤ 1000000 := by have := HQN.out; omega
          have LP2 : p.length ≤ 100000 := by have := HPQ.out; omega
          have LQ2 : q.length ≤ 100000 := by have := HQN.out; omega
          have C1 : Hid (∀ wx, Below wr.heap.size wr wx → Calls Try.prog 27 #[.slice pa p.length pc, .slice qa q.length qc] wx fun e w' => e = .returned (.bool (lessF p q)) ∧ Below wx.heap.size wx w') := fun wx hb => lLess_any _ _ p q wx (HPP.out.below hb) (HQQ.out.below hb) LP LQ
          have C2 : Hid (∀ wx, Below wr.heap.size wr wx → Calls Try.prog 28 #[.slice pa p.length pc, .slice qa q.length qc] wx fun e w' => e = .returned (.bool (lessF p q)) ∧ Below wx.heap.size wx w') := fun wx hb => rlLess_any _ _ p q wx (HPP.out.below hb) (HQQ.out.below hb) LP LQ
          have C3 : Hid (∀ wx, Below wr.heap.size wr wx → Calls Try.prog 29 #[.slice pa p.length pc, .slice qa q.length qc] wx fun e w' => ∃ b : Nat, e = .returned (.slice (some ⟨b, 0, none⟩) (min p.length q.length) (min p.length q.length)) ∧ IL w' (.slice (some ⟨b, 0, none⟩) (min p.length q.length) (min p.length q.length)) (meetF p q) ∧ Below wx.heap.size wx w') := fun wx hb => (lMeet_any _ _ p q wx (HPP.out.below hb) (HQQ.out.below hb) LP2 LQ2).mono fun e w' ⟨b, h1, _, h2, h3⟩ => ⟨b, h1, by
            have h := h2.il (c := min p.length q.length) (by rw [meetF_len]; exact Nat.le_refl _) (by unfold maxLen; omega)
            rw [meetF_len] at h
            exact h, h3⟩
          have C4 : Hid (∀ wx, Below wr.heap.size wr wx → Calls Try.prog 26 #[.slice pa p.length pc, .slice qa q.length qc] wx fun e w' => ∃ (a : Option Addr) (c : Nat), e = .returned (.slice a (min p.length q.length) c) ∧ IL w' (.slice a (min p.length q.length) c) (meetF p q) ∧ Below wx.heap.size wx w') := fun wx hb => (rlMeet_any _ _ p q wx (HPP.out.below hb) (HQQ.out.below hb) LP2 LQ2).mono fun e w' ⟨a, c, h1, h2, h3⟩ => ⟨a, c, h1, h2.il, h3⟩
          have C5 : Hid (∀ wx, Below wr.heap.size wr wx → Calls Try.prog 30 #[.slice pa p.length pc, .slice qa q.length qc] wx fun e w' => e = .returned (.int .i64 (cmpF p q)) ∧ Below wx.heap.size wx w') := fun wx hb => lCompare_any _ _ p q wx (HPP.out.below hb) (HQQ.out.below hb) LP LQ
          have C6 : Hid (∀ wx, Below wr.heap.size wr wx → Calls Try.prog 31 #[.slice pa p.length pc, .slice qa q.length qc] wx fun e w' => e = .returned (.int .i64 (cmpF p q)) ∧ Below wx.heap.size wx w') := fun wx hb => rlCompare_any _ _ p q wx (HPP.out.below hb) (HQQ.out.below hb) LP LQ
          have C7 : Hid (∀ wx, Below wr.heap.size wr wx → Calls Try.prog 30 #[.slice qa q.length qc, .slice pa p.length pc] wx fun e w' => e = .returned (.int .i64 (-(cmpF p q))) ∧ Below wx.heap.size wx w') := fun wx hb => by
            rw [← cmpF_neg]
            exact lCompare_any _ _ q p wx (HQQ.out.below hb) (HPP.out.below hb) LQ LP
          have HMB : Hid ((meetF p q).length ≤ 60) := by show _ ≤ _; rw [meetF_len]; have := HPQ.out; omega
          have hcb := cmpF_bd p q
          clear LP LQ LP2 LQ2
          generalize lessF p q = V at *
          generalize meetF p q = mm at *
          generalize cmpF p q = C at *
          generalize min p.length q.length = mn at *
          obtain ⟨hc0, hc1⟩ := hcb
          have hwn : IntKind.i64.wrap (-C) = -C := IntWalk.i64_in _ (by omega)
          have HBr := HB
          have HB := hidIt (Below.refl wr.heap.size wr)
          go_wp2_with fail
          refine (C1.out _ HB.out).mono ?_
          rintro e w10 ⟨rfl, hb⟩
          have HB := hidIt (HB.out.trans (Below.mono hb HB.out.size))
          clear hb
          go_wp2_with fail
          refine (C2.out _ HB.out).mono ?_
          rintro e w11 ⟨rfl, hb⟩
          have HB := hidIt (HB.out.trans (Below.mono hb HB.out.size))
          clear hb
          go_wp2_with fail
          refine (C3.out _ HB.out).mono ?_
          rintro e w12 ⟨b12, rfl, i12, hb⟩
          have HI12 := hidIt i12
          have HB := hidIt (HB.out.trans (Below.mono hb HB.out.size))
          clear hb i12
          go_wp2_with fail
          refine (C4.out _ HB.out).mono ?_
          rintro e w13 ⟨a13, c13, rfl, i13, hb⟩
          have HI13 := hidIt i13
          have HI12' := hidIt (HI12.out.below hb)
          have HB := hidIt (HB.out.trans (Below.mono hb HB.out.size))
          clear hb i13
          go_wp2_with fail
          refine (kInts_any _ _ mm mm w13 HI12'.out HI13.out (by have := HMB.out; omega) (by have := HMB.out; omega)).mono ?_
          rw [decide_eq_true rfl]
          rintro e w14 ⟨rfl, hb⟩
          have HB := hidIt (HB.out.trans (Below.mono hb HB.out.size))
          clear hb
          go_wp2_with fail
          refine (C5.out _ HB.out).mono ?_
          rintro e w15 ⟨rfl, hb⟩
          have HB := hidIt (HB.out.trans (Below.mono hb HB.out.size))
          clear hb
          go_wp2_with fail
          refine (C6.out _ HB.out).mono ?_
          rintro e w16 ⟨rfl, hb⟩
          have HB := hidIt (HB.out.trans (Below.mono hb HB.out.size))
          clear hb
          go_wp2_with fail
          refine (C7.out _ HB.out).mono ?_
          rintro e w17 ⟨rfl, hb⟩
          have HB := hidIt (HB.out.trans (Below.mono hb HB.out.size))
          clear hb
          go_wp2_with fail
          refine (C6.out _ HB.out).mono ?_
          rintro e w18 ⟨rfl, hb⟩
          have HB := hidIt (HB.out.trans (Below.mono hb HB.out.size))
          clear hb
          have HBZ := hidIt (HBr.out.trans (Below.mono HB.out HBr.out.size))
          go_wp2_with fail
          go_roundw
          case rel => exact ⟨j + 1, by omega, by go_num, HBZ.out⟩
          case measure => simp [intOf]; omega
        · obtain rfl : j = 4 := by omega
          have HBZ := hidIt (HB9.out.trans (Below.mono HB.out HB9.out.size))
          go_wp2_with fail
          go_roundw
          case rel => exact ⟨k + 1, by omega, by go_num, HBZ.out⟩
          case measure => simp [intOf]; omega
    · obtain rfl : k = 3 := by omega
      go_wp2_with fail
      refine (awake11_any _).mono ?_
      rintro e w8 ⟨rfl, hb⟩
      have HBF := hidIt ((HB5.out.trans (Below.mono HB.out HB5.out.size)).trans (Below.mono hb (Nat.le_trans HB5.out.size HB.out.size)))
      clear hb
      go_wp2_with fail
      go_ret
      exact ⟨rfl, HBF.out⟩
end Go.Proofs.Ytbahfcefplgigaa
