/- The law AdmissibleUnion: for every list of numbers it answers true. -/
import Derived.Test.YtihmdnbeonefcaaDoorN1M
import Derived.Test.YtihmdnbeonefcaaDoorG1Dl
namespace Go.Proofs.YtihmdnbeonefcaaDoor
set_option linter.unusedVariables false
set_option linter.unusedSimpArgs false
open Go Go.RowKit Go.Sort

/-- Lists that lie in w0, each an admissible set, in a row of the call's own. -/
def Good (w0 : World) (N : Nat) (ps : List (Int × Int)) (w : World) (v : Value) (m : Nat) : Prop :=
  ∃ vals : List Value, w.ownsRow w0.heap.size 22 1 v m vals ∧ vals.length = m ∧ ∀ i, i < m → ∃ (u : Value) (z : List Int), vals[i]? = some u ∧ IL w0 u z ∧ setB N z = true ∧ admX N ps (memB z) = true
theorem Good.nil (w0 : World) (N : Nat) (ps : List (Int × Int)) (w : World) : Good w0 N ps w (.slice none 0 0) 0 := ⟨[], World.ownsRow_nil w _ _ _, rfl, fun i h => by omega⟩
theorem Good.go {w0 : World} {N : Nat} {ps : List (Int × Int)} {w w' : World} {v : Value} {m : Nat} (h : Good w0 N ps w v m) (hb : Below w.heap.size w w') : Good w0 N ps w' v m := by
  obtain ⟨vals, h1, h2, h3⟩ := h
  exact ⟨vals, owns_kept h1 fun g e => hb.block g (owns_blk h1 g e).2, h2, h3⟩
theorem Good.at_ {w0 : World} {N : Nat} {ps : List (Int × Int)} {w : World} {a : Option Addr} {m c : Nat} (h : Good w0 N ps w (.slice a m c) m) {i : Nat} (hi : i < m) : ∃ (b : Nat) (u : Value) (z : List Int), a = some ⟨b, 0, none⟩ ∧ b < w.heap.size ∧ w.cell? ⟨b, i, none⟩ = some u ∧ IL w0 u z ∧ setB N z = true ∧ admX N ps (memB z) = true := by
  obtain ⟨vals, h1, h2, h3⟩ := h
  obtain ⟨u, z, h4, h5, h6, h7⟩ := h3 i hi
  rcases h1.2 with ⟨h8, -⟩ | ⟨g, cap, cur, hv, hB, hg, hnc, hcm, -, -⟩
  · injection h8 with _ h8 _; omega
  · injection hv with hv _ _
    subst hv
    exact ⟨g, u, z, rfl, lt_of_block hg, owns_cell h1 rfl i u h4, h5, h6, h7⟩

set_option maxRecDepth 100000 in
set_option maxHeartbeats 4000000 in
theorem union_walk (lv : Value) (zs : List Int) (w : World) (hz : IntsAt w w.heap.size lv zs) (hT : Tab w) :
    Calls Tryd.prog 7 #[lv] w fun e w' => e = .returned (.bool true) ∧ Below w.heap.size w w' := by
  have HT := hidIt hT
  have HZ := hidIt hz
  clear hz hT
  go_enter Tryd.func7, Tryd.ntmps7
  go_wp2_with fail
  refine (new_any lv zs w.heap.size w HZ.out (Nat.le_refl _)).mono ?_
  rintro e w1 ⟨zs', rfl, hs1, o1, rfl⟩
  have HS1 := hidIt hs1
  have HB1 := hidIt (bgrow w o1)
  have hsz1 : w.heap.size < (w.alloc o1).heap.size := hs1.lt
  clear hs1
  generalize w.alloc o1 = w1 at *
  go_wp2_with fail
  refine (kGraph_any 6 (by decide) _ _ _ _ w1 HS1.out).mono ?_
  rintro e w2 ⟨N, ps, ga, gc, k2, rfl, hN, hok, hpl, hop, hs2, hg2⟩
  have HOK := hidIt hok
  have HPS := hidIt hpl
  have hgr := bgrow w2 (.cells #[.int .i64 (N : Int), .slice ga ps.length gc] 27)
  have HB2 := hidIt (below_read13 HB1.out hg2 (Nat.le_of_lt hsz1))
  have HW3 : Hid (LW w w2.heap.size N ga gc ps (w2.alloc (.cells #[.int .i64 (N : Int), .slice ga ps.length gc] 27))) :=
    ⟨heap_alloc_new w2 _, (hop.below hgr).lits, (HT.out.go HB2.out).go hgr, HB2.out.trans (Below.mono hgr HB2.out.size)⟩
  clear hok hpl hop hs2 hg2 hgr HB2 HS1 HB1
  go_upto_region 3 with (fail)
  generalize (w2.alloc (.cells #[.int .i64 (N : Int), .slice ga ps.length gc] 27)) = w3 at *
  generalize w2.heap.size = G at *
  have x0 := HW3.out.c0
  have x1 := HW3.out.c1
  have lx := HW3.out.l
  go_wp2_with fail
  refine (rlSets_any N (by omega) w3).mono ?_
  rintro e w4 ⟨la, lc, rfl, hll, hb4⟩
  have HW4 := hidIt (HW3.out.go hb4)
  obtain ⟨la', lc', hle, hcs⟩ := hll.form
  injection hle with hle1 hle2 hle3
  subst hle1 hle3
  have HLC := hidIt hcs
  have HSL := hidIt (setsL_len N)
  have HST : Hid (∀ i (h : i < (setsL N).length), setB N (setsL N)[i] = true) := fun i h => setsL_set h
  obtain ⟨M, hM⟩ : ∃ M, M = 2 ^ N := ⟨_, rfl⟩
  rw [← hM] at HSL ⊢
  have HM := hidIt hM
  have hM128 : M ≤ 1024 := by rw [hM]; exact Nat.pow_le_pow_right (by decide) (by omega : N ≤ 10)
  clear hll hb4 hle2 hcs hM HW3
  clear x0 x1 lx
  go_wp2_with fail
  go_loopw [5, 7, 22] (fun v5 _ i wr => ∃ (k m : Nat) (b : Option Addr) (d : Nat), k ≤ M ∧ i = .int .i64 k ∧ v5 = .slice b m d ∧ m ≤ k ∧ Hid (0 < k → 0 < m) ∧ Hid (Good w4 N ps wr (.slice b m d) m) ∧ Hid (Below w4.heap.size w4 wr)) (fun _ _ i _ => M - (intOf i).toNat)
  case atStart => exact ⟨0, 0, none, 0, Nat.zero_le _, (by first | rfl | trivial), (by first | rfl | trivial), Nat.le_refl _, (fun h => h : 0 < 0 → 0 < 0), Good.nil _ _ _ _, Below.refl _ _⟩
  case round =>
    obtain ⟨k, m, b, d, hk, rfl, rfl, hmk, HPOS, HG, HB⟩ := hrel
    have hk0 : (0 : Int) ≤ (k : Int) := by omega
    have HWr := hidIt (HW4.out.go HB.out)
    by_cases hlt : k < M
    · have hkI : (k : Int) < (M : Int) := by omega
      have hkz : k < (setsL N).length := by have := HSL.out; omega
      obtain ⟨bo, oo, u, rfl, lo, cu, iu⟩ := HLC.out k hkz
      have cu2 := (Below.cell (p := ⟨bo, oo + k, none⟩) HB.out lo).trans cu
      have lo2 := Nat.lt_of_lt_of_le lo HB.out.size
      have HI4 := hidIt iu
      have HIX := hidIt (iu.below HB.out)
      have HSX := hidIt (HST.out k hkz)
      have HZ0 : Hid (k = 0 → (setB N (setsL N)[k] && admX N ps (memB (setsL N)[k])) = true) := fun e => by
        subst e
        rw [setsL_get, setB_setL, adm_set HOK.out.ix, Bool.true_and]
        exact admX_iff.2 ⟨(cfX_iff HOK.out.ix).2 fun k i _ h1 _ => (by rw [tb_zero] at h1; cases h1), fun i _ h1 => (by rw [tb_zero] at h1; cases h1)⟩
      generalize (setsL N)[k] = x at *
      obtain ⟨xa, xc, rfl, -⟩ := HIX.out.form
      have HXL : Hid (x.length ≤ 10) := Nat.le_trans (setB_len HSX.out) (by omega)
      clear cu iu lo hkz
      have HC := hidIt (qAdmissible_any N _ _ ps x wr HWr.out.p HOK.out (by have := HPS.out; omega) HIX.out (by have := HXL.out; omega) HWr.out.t)
      have x0 := HWr.out.c0
      have x1 := HWr.out.c1
      have lx := HWr.out.l
      have hm1024 : m ≤ 1024 := by omega
      cases hadm : (setB N x && admX N ps (memB x))
      · rw [hadm] at HC HZ0
        have hkne : k ≠ 0 := fun e => by have := HZ0.out e; cases this
        have HPOS2 : Hid (0 < k + 1 → 0 < m) := fun _ => HPOS.out (by omega)
        clear hadm hkne HPOS HZ0
        go_wp2_with fail
        refine HC.out.mono ?_
        rintro e w5 ⟨rfl, hb5⟩
        have HB5 := hidIt (HB.out.trans (Below.mono hb5 HB.out.size))
        have HW5 := hidIt (HWr.out.go hb5)
        have HI5 := hidIt (HIX.out.below hb5)
        have HG5 := hidIt (HG.out.go hb5)
        clear hb5 HC HB HWr HIX HG cu2 lo2 x0 x1 lx
        have HS := hidIt (qIsStable_any N _ _ ps x w5 HW5.out.p HOK.out (by have := HPS.out; omega) HI5.out (by have := HXL.out; omega) HW5.out.t)
        have x0 := HW5.out.c0
        have x1 := HW5.out.c1
        have lx := HW5.out.l
        cases hst : (setB N x && stabX N ps (memB x))
        · rw [hst] at HS
          clear hst
          go_wp2_with fail
          refine HS.out.mono ?_
          rintro e w8 ⟨rfl, hb8⟩
          have HB8 := hidIt (HB5.out.trans (Below.mono hb8 HB5.out.size))
          have HG8 := hidIt (HG5.out.go hb8)
          clear hb8
          go_wp2_with fail
          go_roundw
          case rel => exact ⟨k + 1, m, b, d, by omega, by go_num, (by first | rfl | trivial), by omega, HPOS2.out, HG8.out, HB8.out⟩
          case measure => simp [intOf]; omega
        have HCO := hidIt (stable_one HOK.out.ix hst)
        rw [hst] at HS
        clear hst
        go_wp2_with fail
        refine HS.out.mono ?_
        rintro e w8 ⟨rfl, hb8⟩
        have HB8 := hidIt (HB5.out.trans (Below.mono hb8 HB5.out.size))
        have HG8 := hidIt (HG5.out.go hb8)
        have HW8 := hidIt (HW5.out.go hb8)
        have HI8 := hidIt (HI5.out.below hb8)
        clear hb8 HS x0 x1 lx
        have x0 := HW8.out.c0
        have x1 := HW8.out.c1
        have lx := HW8.out.l
        go_wp2_with fail
        refine (qIsComplete_any N _ _ ps x w8 HW8.out.p HOK.out (by have := HPS.out; omega) HI8.out (by have := HXL.out; omega) HW8.out.t).mono ?_
        rw [HCO.out]
        rintro e w9 ⟨rfl, hb9⟩
        have HB9 := hidIt (HB8.out.trans (Below.mono hb9 HB8.out.size))
        have HG9 := hidIt (HG8.out.go hb9)
        clear hb9
        go_wp2_with fail
        go_roundw
        case rel => exact ⟨k + 1, m, b, d, by omega, by go_num, (by first | rfl | trivial), by omega, HPOS2.out, HG9.out, HB9.out⟩
        case measure => simp [intOf]; omega
      rw [hadm] at HC
      have HAD : Hid (admX N ps (memB x) = true) := by rw [Bool.and_eq_true] at hadm; exact hadm.2
      clear hadm HZ0 HPOS
      go_wp2_with fail
      refine HC.out.mono ?_
      rintro e w5 ⟨rfl, hb5⟩
      have HG5 := hidIt (HG.out.go hb5)
      have hgr6 := bgrow w5 (.cells #[.slice xa x.length xc] 22)
      have hb6 := hb5.trans (Below.mono hgr6 hb5.size)
      have HB6 := hidIt (HB.out.trans (Below.mono hb6 HB.out.size))
      have HW6 := hidIt (HWr.out.go hb6)
      have HI6 := hidIt (HIX.out.below hb6)
      have HG6 := hidIt (HG5.out.go hgr6)
      have hsz6 : w4.heap.size ≤ (w5.alloc (.cells #[.slice xa x.length xc] 22)).heap.size := HB6.out.size
      obtain ⟨vals, hv1, hv2, hv3⟩ := HG6.out
      have HV1 := hidIt hv1
      have HV2 := hidIt hv2
      have HV3 := hidIt hv3
      clear hb5 hgr6 hb6 HC HB HWr HIX HG HG5 HG6 hv1 hv2 hv3 cu2 lo2 x0 x1 lx
      go_wp2_with (at_builtin; refine Hid.out ?_)
      refine hidIt ?_
      refine wpList_append_kb rfl (.tmp 29) (.tmp 31) elemLL rfl w4.heap.size (.slice b m d) m _ rfl HV1.out _ 1 rfl #[.slice xa x.length xc] 22 (heap_alloc_new _ _) rfl (one_of (by rfl)) (by omega) hsz6 ?_
      intro g7 c7 w7 hown7 hg7 hbl7
      have hb7 : Below w4.heap.size w4 w7 := below_app5 HB6.out hg7 (fun g e => (owns_blk HV1.out g e).1) hsz6
      have HB5 := hidIt hb7
      have HW5 := hidIt (HW4.out.go hb7)
      have HI5 := hidIt (HI4.out.below hb7)
      have HG5 : Hid (Good w4 N ps w7 (.slice (some ⟨g7, 0, none⟩) (m + 1) c7) (m + 1)) := by
        refine ⟨vals ++ [.slice xa x.length xc], hown7, by rw [List.length_append, HV2.out]; rfl, fun i hi => ?_⟩
        by_cases e : i < m
        · obtain ⟨u, z, h1, h2, h3, h4⟩ := HV3.out i e
          exact ⟨u, z, by rw [List.getElem?_append_left (by rw [HV2.out]; exact e)]; exact h1, h2, h3, h4⟩
        · obtain rfl : i = m := by omega
          exact ⟨_, x, by rw [List.getElem?_append_right (by rw [HV2.out]; exact Nat.le_refl _), HV2.out, Nat.sub_self]; rfl, HI4.out, HSX.out, HAD.out⟩
      have HPOS2 : Hid (0 < k + 1 → 0 < m + 1) := fun _ => Nat.succ_pos m
      clear hown7 hg7 hbl7 hb7 HV1 HV2 HV3 HB6 HW6 HI6 hsz6
      have HS := hidIt (qIsStable_any N _ _ ps x w7 HW5.out.p HOK.out (by have := HPS.out; omega) HI5.out (by have := HXL.out; omega) HW5.out.t)
      have x0 := HW5.out.c0
      have x1 := HW5.out.c1
      have lx := HW5.out.l
      cases hst : (setB N x && stabX N ps (memB x))
      · rw [hst] at HS
        clear hst
        go_wp2_with fail
        refine HS.out.mono ?_
        rintro e w8 ⟨rfl, hb8⟩
        have HB8 := hidIt (HB5.out.trans (Below.mono hb8 HB5.out.size))
        have HG8 := hidIt (HG5.out.go hb8)
        clear hb8
        go_wp2_with fail
        go_roundw
        case rel => exact ⟨k + 1, m + 1, some ⟨g7, 0, none⟩, c7, by omega, by go_num, (by first | rfl | trivial), by omega, HPOS2.out, HG8.out, HB8.out⟩
        case measure => simp [intOf]; omega
      have HCO := hidIt (stable_one HOK.out.ix hst)
      rw [hst] at HS
      clear hst
      go_wp2_with fail
      refine HS.out.mono ?_
      rintro e w8 ⟨rfl, hb8⟩
      have HB8 := hidIt (HB5.out.trans (Below.mono hb8 HB5.out.size))
      have HG8 := hidIt (HG5.out.go hb8)
      have HW8 := hidIt (HW5.out.go hb8)
      have HI8 := hidIt (HI5.out.below hb8)
      clear hb8 HS x0 x1 lx
      have x0 := HW8.out.c0
      have x1 := HW8.out.c1
      have lx := HW8.out.l
      go_wp2_with fail
      refine (qIsComplete_any N _ _ ps x w8 HW8.out.p HOK.out (by have := HPS.out; omega) HI8.out (by have := HXL.out; omega) HW8.out.t).mono ?_
      rw [HCO.out]
      rintro e w9 ⟨rfl, hb9⟩
      have HB9 := hidIt (HB8.out.trans (Below.mono hb9 HB8.out.size))
      have HG9 := hidIt (HG8.out.go hb9)
      clear hb9
      go_wp2_with fail
      go_roundw
      case rel => exact ⟨k + 1, m + 1, some ⟨g7, 0, none⟩, c7, by omega, by go_num, (by first | rfl | trivial), by omega, HPOS2.out, HG9.out, HB9.out⟩
      case measure => simp [intOf]; omega
    · obtain rfl : k = M := by omega
      have hkI : ¬ (k : Int) < (k : Int) := by omega
      have hm0 : 0 < m := HPOS.out (by rw [HM.out]; exact Nat.two_pow_pos N)
      have hmI0 : (0 : Int) < (m : Int) := by omega
      have hmk2 : m ≤ 1024 := by omega
      have HWg := hidIt HWr.out
      have HWB := hidIt HB.out
      clear HWr HB
      obtain ⟨wg, hwg⟩ : ∃ wg, wg = wr := ⟨_, rfl⟩
      subst hwg
      go_wp2_with fail
      go_loopw [9, 11, 12, 13, 45, 51] (fun _ _ _ _ i _ wr => ∃ p : Nat, p ≤ m ∧ i = .int .i64 p ∧ Hid (Below wg.heap.size wg wr)) (fun _ _ _ _ i _ _ => m - (intOf i).toNat)
      case atStart => exact ⟨0, Nat.zero_le _, (by first | rfl | trivial), Below.refl _ _⟩
      case round =>
        obtain ⟨p, hp, rfl, HBp⟩ := hrel
        have hp0 : (0 : Int) ≤ (p : Int) := by omega
        by_cases hpt : p < m
        · have hpI : (p : Int) < (m : Int) := by omega
          obtain ⟨gb, u1, X, rfl, lg1, cg1, ix1, sx1, ax1⟩ := (HG.out.go HBp.out).at_ hpt
          obtain ⟨xa, xc, rfl, -⟩ := ix1.form
          have HXI := hidIt ix1
          have HXS := hidIt sx1
          have HXA := hidIt ax1
          clear ix1 sx1 ax1
          go_wp2_with fail
          clear cg1 lg1
          go_loopw [11, 12, 13, 51] (fun _ _ _ i w' => ∃ q : Nat, q ≤ m ∧ i = .int .i64 q ∧ Hid (Below wg.heap.size wg w')) (fun _ _ _ i _ => m - (intOf i).toNat)
          case atStart => exact ⟨0, Nat.zero_le _, (by first | rfl | trivial), HBp.out⟩
          case round =>
            clear HBp
            obtain ⟨q, hq, rfl, HBq⟩ := hrel
            have hq0 : (0 : Int) ≤ (q : Int) := by omega
            by_cases hqt : q < m
            · have hqI : (q : Int) < (m : Int) := by omega
              obtain ⟨gb2, u2, Y, hge, lg2, cg2, iy, sy, ay⟩ := (HG.out.go HBq.out).at_ hqt
              injection hge with hge
              injection hge with hge
              subst hge
              obtain ⟨ya, yc, rfl, -⟩ := iy.form
              have HYI := hidIt iy
              have HYS := hidIt sy
              have HYA := hidIt ay
              clear iy sy ay
              have HUN := hidIt (union_one HOK.out.ix HXA.out HYA.out)
              obtain ⟨wj, hwj⟩ : ∃ wj, wj = wr := ⟨_, rfl⟩
              subst hwj
              have HWj := hidIt (HWg.out.go HBq.out)
              have HB4j := hidIt (HWB.out.trans (Below.mono HBq.out HWB.out.size))
              have HXj := hidIt (HXI.out.below HB4j.out)
              have HYj := hidIt (HYI.out.below HB4j.out)
              have HXL : Hid (X.length ≤ 10) := Nat.le_trans (setB_len HXS.out) (by omega)
              have HYL : Hid (Y.length ≤ 10) := Nat.le_trans (setB_len HYS.out) (by omega)
              go_wp2_with fail
              clear cg2 lg2
              go_loopw [12, 13] (fun v12 i wr => ∃ (k l : Nat) (b : Option Addr) (d : Nat), k ≤ N ∧ v12 = .slice b l d ∧ i = .int .i64 k ∧ Hid (l = (setTo (orX (memB X) (memB Y)) k).length) ∧ Hid (OwnI wr wj.heap.size (.slice b l d) (ints (setTo (orX (memB X) (memB Y)) k))) ∧ Hid (Below wj.heap.size wj wr)) (fun _ i _ => N - (intOf i).toNat)
              case atStart => exact ⟨0, 0, none, 0, Nat.zero_le _, (by first | rfl | trivial), (by first | rfl | trivial), (rfl : 0 = (setTo (orX (memB X) (memB Y)) 0).length), OwnI.nil _ _, Below.refl _ _⟩
              case round =>
                obtain ⟨k, l, b, d, hk, rfl, rfl, HL, HO, HBr⟩ := hrel
                have hk0 : (0 : Int) ≤ (k : Int) := by omega
                have HWr := hidIt (HWj.out.go HBr.out)
                have x0 := HWr.out.c0
                have x1 := HWr.out.c1
                have lx := HWr.out.l
                by_cases hlt : k < N
                · have hkI : (k : Int) < (N : Int) := by omega
                  have HSS := hidIt (setTo_step (orX (memB X) (memB Y)) k)
                  have hl5 : l ≤ k := by rw [HL.out]; exact setTo_len _ _
                  have HFK : Hid (orX (memB X) (memB Y) k = (memB X k || memB Y k)) := (rfl : _ = _)
                  have HC := hidIt (kIn_any _ X (k : Int) wr (HXj.out.below HBr.out) (by have := HXL.out; omega))
                  change Hid (Calls _ _ _ _ fun e w' => e = .returned (.bool (memB X k)) ∧ _) at HC
                  have HD := hidIt (kIn_any _ Y (k : Int) wr (HYj.out.below HBr.out) (by have := HYL.out; omega))
                  change Hid (Calls _ _ _ _ fun e w' => e = .returned (.bool (memB Y k)) ∧ _) at HD
                  generalize orX (memB X) (memB Y) = F at *
                  cases hmx : memB X k
                  · rw [hmx] at HC HFK
                    rw [Bool.false_or] at HFK
                    clear hmx
                    cases hmy : memB Y k
                    · rw [hmy] at HD HFK
                      rw [HFK.out, if_neg (by decide), List.append_nil] at HSS
                      clear hmy
                      go_wp2_with fail
                      refine HC.out.mono ?_
                      rintro e wq ⟨rfl, rfl⟩
                      go_wp2_with fail
                      refine HD.out.mono ?_
                      rintro e wq ⟨rfl, rfl⟩
                      go_wp2_with fail
                      go_roundw
                      case rel => exact ⟨k + 1, l, b, d, by omega, (by first | rfl | trivial), by go_num, (by rw [HSS.out]; exact HL.out), (by rw [HSS.out]; exact HO.out), HBr.out⟩
                      case measure => simp [intOf]; omega
                    · rw [hmy] at HD HFK
                      rw [HFK.out, if_pos rfl] at HSS
                      clear hmy
                      go_wp2_with fail
                      refine HC.out.mono ?_
                      rintro e wq ⟨rfl, rfl⟩
                      go_wp2_with fail
                      refine HD.out.mono ?_
                      rintro e wq ⟨rfl, rfl⟩
                      have HO5 := hidIt HO.out
                      have HB5 := hidIt HBr.out
                      clear HO HBr x0 x1 lx HWr
                      have HTL : Hid ((ints (setTo F k)).length = l) := by show _ = _; rw [ints_len]; exact HL.out.symm
                      have HO7 := hidIt (HO5.out.news HTL.out (.cells #[.int .i64 (k : Int)] 3))
                      have HB7 := hidIt (HB5.out.trans (Below.mono (bgrow wq (.cells #[.int .i64 (k : Int)] 3)) HB5.out.size))
                      have hsz7 : wj.heap.size ≤ (wq.alloc (.cells #[.int .i64 (k : Int)] 3)).heap.size := HB7.out.size
                      go_wp2_with (at_builtin; refine Hid.out ?_)
                      refine hidIt ?_
                      refine wpList_append_kb rfl _ _ elemI rfl wj.heap.size (.slice b l d) l _ rfl HO7.out _ 1 rfl #[.int .i64 (k : Int)] 3 (heap_alloc_new _ _) rfl (one_of (by rfl)) (by omega) hsz7 ?_
                      intro g8 c8 w8 hown8 hg8 hbl8
                      have HB8 := hidIt (below_app5 HB7.out hg8 (fun g e => (owns_blk HO7.out g e).1) hsz7)
                      have HO8 : Hid (OwnI w8 wj.heap.size (.slice (some ⟨g8, 0, none⟩) (l + 1) c8) (ints (setTo F (k + 1)))) := by
                        have := OwnI.done HTL.out hown8
                        show OwnI _ _ _ _
                        rw [HSS.out]
                        unfold ints at this ⊢
                        rw [List.map_append]
                        exact this
                      have HL8 : Hid (l + 1 = (setTo F (k + 1)).length) := by show _ = _; rw [HSS.out, List.length_append, ← HL.out]; rfl
                      clear hown8 hg8 hbl8 HO7 HB7 hsz7 HO5 HB5
                      go_wp2_with fail
                      go_roundw
                      case rel => exact ⟨k + 1, l + 1, some ⟨g8, 0, none⟩, c8, by omega, (by first | rfl | trivial), by go_num, HL8.out, HO8.out, HB8.out⟩
                      case measure => simp [intOf]; omega
                  · rw [hmx] at HC HFK
                    rw [Bool.true_or] at HFK
                    rw [HFK.out, if_pos rfl] at HSS
                    clear hmx HD
                    go_wp2_with fail
                    refine HC.out.mono ?_
                    rintro e wq ⟨rfl, rfl⟩
                    have HO5 := hidIt HO.out
                    have HB5 := hidIt HBr.out
                    clear HO HBr x0 x1 lx HWr
                    have HTL : Hid ((ints (setTo F k)).length = l) := by show _ = _; rw [ints_len]; exact HL.out.symm
                    have HO7 := hidIt (HO5.out.news HTL.out (.cells #[.int .i64 (k : Int)] 3))
                    have HB7 := hidIt (HB5.out.trans (Below.mono (bgrow wq (.cells #[.int .i64 (k : Int)] 3)) HB5.out.size))
                    have hsz7 : wj.heap.size ≤ (wq.alloc (.cells #[.int .i64 (k : Int)] 3)).heap.size := HB7.out.size
                    go_wp2_with (at_builtin; refine Hid.out ?_)
                    refine hidIt ?_
                    refine wpList_append_kb rfl _ _ elemI rfl wj.heap.size (.slice b l d) l _ rfl HO7.out _ 1 rfl #[.int .i64 (k : Int)] 3 (heap_alloc_new _ _) rfl (one_of (by rfl)) (by omega) hsz7 ?_
                    intro g8 c8 w8 hown8 hg8 hbl8
                    have HB8 := hidIt (below_app5 HB7.out hg8 (fun g e => (owns_blk HO7.out g e).1) hsz7)
                    have HO8 : Hid (OwnI w8 wj.heap.size (.slice (some ⟨g8, 0, none⟩) (l + 1) c8) (ints (setTo F (k + 1)))) := by
                      have := OwnI.done HTL.out hown8
                      show OwnI _ _ _ _
                      rw [HSS.out]
                      unfold ints at this ⊢
                      rw [List.map_append]
                      exact this
                    have HL8 : Hid (l + 1 = (setTo F (k + 1)).length) := by show _ = _; rw [HSS.out, List.length_append, ← HL.out]; rfl
                    clear hown8 hg8 hbl8 HO7 HB7 hsz7 HO5 HB5
                    go_wp2_with fail
                    go_roundw
                    case rel => exact ⟨k + 1, l + 1, some ⟨g8, 0, none⟩, c8, by omega, (by first | rfl | trivial), by go_num, HL8.out, HO8.out, HB8.out⟩
                    case measure => simp [intOf]; omega
                · obtain rfl : k = N := by omega
                  have hkI : ¬ (k : Int) < (k : Int) := by omega
                  have HMO : Hid (IL wr (.slice b l d) (setL k (orX (memB X) (memB Y)))) := HO.out.il
                  have HML := hidIt (setL_len k (orX (memB X) (memB Y)))
                  generalize (setL k (orX (memB X) (memB Y))) = y at *
                  have HBr2 := hidIt (HBq.out.trans (Below.mono HBr.out HBq.out.size))
                  clear HO HL
                  have HC := hidIt (qConflictFree_any k _ _ ps y wr HWr.out.p HOK.out (by have := HPS.out; omega) HMO.out (by have := HML.out; omega) HWr.out.t)
                  cases hcf : (setB k y && cfX ps (memB y))
                  · rw [hcf] at HC
                    clear hcf
                    go_wp2_with fail
                    refine HC.out.mono ?_
                    rintro e w8 ⟨rfl, hb8⟩
                    have HB8 := hidIt (HBr2.out.trans (Below.mono hb8 HBr2.out.size))
                    clear hb8
                    go_wp2_with fail
                    go_roundw
                    case rel => exact ⟨q + 1, by omega, by go_num, HB8.out⟩
                    case measure => simp [intOf]; omega
                  · have HAY := hidIt (HUN.out hcf)
                    rw [hcf] at HC
                    clear hcf
                    go_wp2_with fail
                    refine HC.out.mono ?_
                    rintro e w8 ⟨rfl, hb8⟩
                    have HB8 := hidIt (HBr2.out.trans (Below.mono hb8 HBr2.out.size))
                    have HW8 := hidIt (HWr.out.go hb8)
                    have HM8 := hidIt (HMO.out.below hb8)
                    clear hb8 x0 x1 lx HWr HMO HBr2
                    have x0 := HW8.out.c0
                    have x1 := HW8.out.c1
                    have lx := HW8.out.l
                    go_wp2_with fail
                    refine (qAdmissible_any k _ _ ps y w8 HW8.out.p HOK.out (by have := HPS.out; omega) HM8.out (by have := HML.out; omega) HW8.out.t).mono ?_
                    rw [HAY.out]
                    rintro e w9 ⟨rfl, hb9⟩
                    have HB9 := hidIt (HB8.out.trans (Below.mono hb9 HB8.out.size))
                    clear hb9
                    go_wp2_with fail
                    go_roundw
                    case rel => exact ⟨q + 1, by omega, by go_num, HB9.out⟩
                    case measure => simp [intOf]; omega
            · obtain rfl : q = m := by omega
              have hqI : ¬ (q : Int) < (q : Int) := by omega
              go_wp2_with fail
              go_roundw
              case rel => exact ⟨p + 1, by omega, by go_num, HBq.out⟩
              case measure => simp [intOf]; omega
        · obtain rfl : p = m := by omega
          have hpI : ¬ (p : Int) < (p : Int) := by omega
          have HWp := hidIt (HWg.out.go HBp.out)
          go_wp2_with fail
          refine (awake13_any _ HWp.out.t).mono ?_
          rintro e w30 ⟨rfl, hb⟩
          have HBF := hidIt (HWp.out.b.trans (Below.mono hb HWp.out.b.size))
          clear hb
          go_wp2_with fail
          go_ret
          exact ⟨rfl, HBF.out⟩
end Go.Proofs.YtihmdnbeonefcaaDoor
