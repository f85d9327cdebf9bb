/- The law AdmissibleLemma: for every list of numbers it answers true. -/
import Derived.Test.YtihmdnbeonefcaaDoorN1M
namespace Go.Proofs.YtihmdnbeonefcaaDoor
set_option linter.unusedVariables false
set_option linter.unusedSimpArgs false
open Go Go.RowKit Go.Sort

set_option maxRecDepth 100000 in
set_option maxHeartbeats 4000000 in
theorem lemma_walk (lv : Value) (zs : List Int) (w : World) (hz : IntsAt w w.heap.size lv zs) (hT : Tab w) :
    Calls Tryd.prog 6 #[lv] w fun e w' => e = .returned (.bool true) ∧ Below w.heap.size w w' := by
  have HT := hidIt hT
  have HZ := hidIt hz
  clear hz hT
  go_enter Tryd.func6, Tryd.ntmps6
  go_wp2_with fail
  refine (new_any lv zs w.heap.size w HZ.out (Nat.le_refl _)).mono ?_
  rintro e w1 ⟨zs', rfl, hs1, o1, rfl⟩
  have HS1 := hidIt hs1
  have HB1 := hidIt (bgrow w o1)
  have hsz1 : w.heap.size < (w.alloc o1).heap.size := hs1.lt
  clear hs1
  generalize w.alloc o1 = w1 at *
  go_wp2_with fail
  refine (kGraph_any 6 (by decide) _ _ _ _ w1 HS1.out).mono ?_
  rintro e w2 ⟨N, ps, ga, gc, k2, rfl, hN, hok, hpl, hop, hs2, hg2⟩
  have HOK := hidIt hok
  have HPS := hidIt hpl
  have hgr := bgrow w2 (.cells #[.int .i64 (N : Int), .slice ga ps.length gc] 27)
  have HB2 := hidIt (below_read13 HB1.out hg2 (Nat.le_of_lt hsz1))
  have HW3 : Hid (LW w w2.heap.size N ga gc ps (w2.alloc (.cells #[.int .i64 (N : Int), .slice ga ps.length gc] 27))) :=
    ⟨heap_alloc_new w2 _, (hop.below hgr).lits, (HT.out.go HB2.out).go hgr, HB2.out.trans (Below.mono hgr HB2.out.size)⟩
  clear hok hpl hop hs2 hg2 hgr HB2 HS1 HB1
  go_upto_region 3 with (fail)
  generalize (w2.alloc (.cells #[.int .i64 (N : Int), .slice ga ps.length gc] 27)) = w3 at *
  generalize w2.heap.size = G at *
  have x0 := HW3.out.c0
  have x1 := HW3.out.c1
  have lx := HW3.out.l
  go_wp2_with fail
  refine (rlSets_any N (by omega) w3).mono ?_
  rintro e w4 ⟨la, lc, rfl, hll, hb4⟩
  have HW4 := hidIt (HW3.out.go hb4)
  obtain ⟨la', lc', hle, hcs⟩ := hll.form
  injection hle with hle1 hle2 hle3
  subst hle1 hle3
  have HLC := hidIt hcs
  have HSL := hidIt (setsL_len N)
  have HST : Hid (∀ i (h : i < (setsL N).length), setB N (setsL N)[i] = true) := fun i h => setsL_set h
  obtain ⟨M, hM⟩ : ∃ M, M = 2 ^ N := ⟨_, rfl⟩
  rw [← hM] at HSL ⊢
  have HM := hidIt hM
  have hM128 : M ≤ 1024 := by rw [hM]; exact Nat.pow_le_pow_right (by decide) (by omega : N ≤ 10)
  clear hll hb4 hle2 hcs hM HW3
  clear x0 x1 lx
  go_wp2_with fail
  go_loopw [6, 7, 9, 10, 11, 20, 33] (fun _ _ _ _ _ i _ wr => ∃ k : Nat, k ≤ M ∧ i = .int .i64 k ∧ Hid (Below w4.heap.size w4 wr)) (fun _ _ _ _ _ i _ _ => M - (intOf i).toNat)
  case atStart => exact ⟨0, Nat.zero_le _, (by first | rfl | trivial), Below.refl _ _⟩
  case round =>
    obtain ⟨k, hk, rfl, HB⟩ := hrel
    have hk0 : (0 : Int) ≤ (k : Int) := by omega
    have HWr := hidIt (HW4.out.go HB.out)
    by_cases hlt : k < M
    · have hkI : (k : Int) < (M : Int) := by omega
      have hkz : k < (setsL N).length := by have := HSL.out; omega
      obtain ⟨bo, oo, u, rfl, lo, cu, iu⟩ := HLC.out k hkz
      have cu2 := (Below.cell (p := ⟨bo, oo + k, none⟩) HB.out lo).trans cu
      have lo2 := Nat.lt_of_lt_of_le lo HB.out.size
      have HIX := hidIt (iu.below HB.out)
      have HSX := hidIt (HST.out k hkz)
      generalize (setsL N)[k] = x at *
      obtain ⟨xa, xc, rfl, -⟩ := HIX.out.form
      have HXL : Hid (x.length ≤ 10) := Nat.le_trans (setB_len HSX.out) (by omega)
      clear cu iu lo hkz
      have HC := hidIt (raAdmissible_any N _ _ ps x wr HWr.out.p HOK.out HPS.out HIX.out (by have := HXL.out; omega))
      have x0 := HWr.out.c0
      have x1 := HWr.out.c1
      have lx := HWr.out.l
      cases hadm : (setB N x && admX N ps (memB x))
      · rw [hadm] at HC
        clear hadm
        go_wp2_with fail
        refine HC.out.mono ?_
        rintro e w5 ⟨rfl, hb5⟩
        have HB5 := hidIt (HB.out.trans (Below.mono hb5 HB.out.size))
        clear hb5
        go_wp2_with fail
        go_roundw
        case rel => exact ⟨k + 1, by omega, by go_num, HB5.out⟩
        case measure => simp [intOf]; omega
      rw [hadm] at HC
      have HAD : Hid (admX N ps (memB x) = true) := by rw [Bool.and_eq_true] at hadm; exact hadm.2
      clear hadm
      go_wp2_with fail
      refine HC.out.mono ?_
      rintro e w5 ⟨rfl, hb5⟩
      have HB5 := hidIt (HB.out.trans (Below.mono hb5 HB.out.size))
      have HW5 := hidIt (HWr.out.go hb5)
      have HI5 := hidIt (HIX.out.below hb5)
      clear hb5 HC HB HWr HIX cu2 lo2 x0 x1 lx
      have x0 := HW5.out.c0
      have x1 := HW5.out.c1
      have lx := HW5.out.l
      go_wp2_with fail
      refine (qStep_any N _ _ ps x w5 HW5.out.p HOK.out (by have := HPS.out; omega) HI5.out (by have := HXL.out; omega) HW5.out.t).mono ?_
      rintro e w6 ⟨sv, rfl, ho6, hb6⟩
      have HS6 := hidIt ho6.il
      have HB6 := hidIt (HB5.out.trans (Below.mono hb6 HB5.out.size))
      have HW6 := hidIt (HW5.out.go hb6)
      have HI6 := hidIt (HI5.out.below hb6)
      have HSLN := hidIt (stepL_len N ps x)
      have HSM : Hid (∀ z ∈ stepL N ps x, ∃ I : Nat, z = (I : Int) ∧ I < N ∧ dfX ps (memB x) I = true) := fun z hz => by
        rw [stepL_of HSX.out] at hz
        obtain ⟨I, h1, h2, h3⟩ := mem_setL.1 hz
        exact ⟨I, h3, h1, h2⟩
      obtain ⟨sa, sc, rfl, hsic⟩ := HS6.out.ic
      have HSC := hidIt hsic
      have HONE : Hid (∀ I, I < N → dfX ps (memB x) I = true → (setB N (setL N (plusX (memB x) I)) && admX N ps (memB (setL N (plusX (memB x) I)))) = true ∧ subL (stepL N ps x) (stepL N ps (setL N (plusX (memB x) I))) = true) := fun I h1 h2 => lemma_one HOK.out.ix HSX.out HAD.out h1 h2
      generalize stepL N ps x = st at *
      obtain ⟨L, hL⟩ : ∃ L, L = st.length := ⟨_, rfl⟩
      have HLS := hidIt hL
      rw [← hL] at HSLN HS6 ⊢
      have hL40 : L ≤ 40 := by have := HSLN.out; omega
      clear ho6 hb6 hsic hL HB5 HW5 HI5 x0 x1 lx
      go_wp2_with fail
      go_loopw [9, 10, 11, 33] (fun _ _ _ i wr => ∃ j : Nat, j ≤ L ∧ i = .int .i64 j ∧ Hid (Below w6.heap.size w6 wr)) (fun _ _ _ i _ => L - (intOf i).toNat)
      case atStart => exact ⟨0, Nat.zero_le _, (by first | rfl | trivial), Below.refl _ _⟩
      case round =>
        obtain ⟨j, hj, rfl, HBj⟩ := hrel
        have hj0 : (0 : Int) ≤ (j : Int) := by omega
        by_cases hjt : j < L
        · have hjI : (j : Int) < (L : Int) := by omega
          have hjx : j < st.length := by have := HLS.out; omega
          obtain ⟨b1, o1, rfl, l1, hc1⟩ := (HSC.out.go HBj.out).at_ hjx
          have p0 := hc1 j hjx
          obtain ⟨I, hzI, hIN, hdI⟩ := HSM.out _ (List.getElem_mem hjx)
          rw [hzI] at p0
          have HONI := hidIt (HONE.out I hIN hdI)
          have hI0 : (0 : Int) ≤ (I : Int) := by omega
          clear hc1 hzI hdI
          obtain ⟨wj, hwj⟩ : ∃ wj, wj = wr := ⟨_, rfl⟩
          subst hwj
          have HWj := hidIt (HW6.out.go HBj.out)
          have HIj := hidIt (HI6.out.below HBj.out)
          go_wp2_with fail
          go_loopw [10, 11] (fun v10 i wr => ∃ (k l : Nat) (b : Option Addr) (d : Nat), k ≤ N ∧ v10 = .slice b l d ∧ i = .int .i64 k ∧ Hid (l = (setTo (plusX (memB x) I) k).length) ∧ Hid (OwnI wr wj.heap.size (.slice b l d) (ints (setTo (plusX (memB x) I) k))) ∧ Hid (Below wj.heap.size wj wr)) (fun _ i _ => N - (intOf i).toNat)
          case atStart => exact ⟨0, 0, none, 0, Nat.zero_le _, (by first | rfl | trivial), (by first | rfl | trivial), (rfl : 0 = (setTo (plusX (memB x) I) 0).length), OwnI.nil _ _, Below.refl _ _⟩
          case round =>
            clear hk hlt hk0 hkI
            obtain ⟨k, l, b, d, hk, rfl, rfl, HL, HO, HBr⟩ := hrel
            have hk0 : (0 : Int) ≤ (k : Int) := by omega
            have HWr := hidIt (HWj.out.go HBr.out)
            have x0 := HWr.out.c0
            have x1 := HWr.out.c1
            have lx := HWr.out.l
            by_cases hlt : k < N
            · have hkI : (k : Int) < (N : Int) := by omega
              have HSS := hidIt (setTo_step (plusX (memB x) I) k)
              have hl5 : l ≤ k := by rw [HL.out]; exact setTo_len _ _
              have HFK : Hid (plusX (memB x) I k = (decide (k = I) || memB x k)) := (rfl : _ = _)
              have HC := hidIt (kIn_any _ x (k : Int) wr (HIj.out.below HBr.out) (by have := HXL.out; omega))
              change Hid (Calls _ _ _ _ fun e w' => e = .returned (.bool (memB x k)) ∧ _) at HC
              by_cases hki : k = I
              · have hb : ((k : Int) == (I : Int)) = true := beq_iff_eq.2 (by omega)
                rw [decide_eq_true hki, Bool.true_or] at HFK
                rw [HFK.out, if_pos rfl] at HSS
                generalize plusX (memB x) I = F at *
                clear hki
                have HO5 := hidIt HO.out
                have HB5 := hidIt HBr.out
                clear HO HBr
                have HTL : Hid ((ints (setTo F k)).length = l) := by show _ = _; rw [ints_len]; exact HL.out.symm
                have HO7 := hidIt (HO5.out.news HTL.out (.cells #[.int .i64 (k : Int)] 3))
                have HB7 := hidIt (HB5.out.trans (Below.mono (bgrow wr (.cells #[.int .i64 (k : Int)] 3)) HB5.out.size))
                have hsz7 : wj.heap.size ≤ (wr.alloc (.cells #[.int .i64 (k : Int)] 3)).heap.size := HB7.out.size
                go_wp2_with (at_builtin; refine Hid.out ?_)
                refine hidIt ?_
                refine wpList_append_kb rfl _ _ elemI rfl wj.heap.size (.slice b l d) l _ rfl HO7.out _ 1 rfl #[.int .i64 (k : Int)] 3 (heap_alloc_new _ _) rfl (one_of (by rfl)) (by omega) hsz7 ?_
                intro g8 c8 w8 hown8 hg8 hbl8
                have HB8 := hidIt (below_app5 HB7.out hg8 (fun g e => (owns_blk HO7.out g e).1) hsz7)
                have HO8 : Hid (OwnI w8 wj.heap.size (.slice (some ⟨g8, 0, none⟩) (l + 1) c8) (ints (setTo F (k + 1)))) := by
                  have := OwnI.done HTL.out hown8
                  show OwnI _ _ _ _
                  rw [HSS.out]
                  unfold ints at this ⊢
                  rw [List.map_append]
                  exact this
                have HL8 : Hid (l + 1 = (setTo F (k + 1)).length) := by show _ = _; rw [HSS.out, List.length_append, ← HL.out]; rfl
                clear hown8 hg8 hbl8 HO7 HB7 hsz7 HO5 HB5
                go_wp2_with fail
                go_roundw
                case rel => exact ⟨k + 1, l + 1, some ⟨g8, 0, none⟩, c8, by omega, (by first | rfl | trivial), by go_num, HL8.out, HO8.out, HB8.out⟩
                case measure => simp [intOf]; omega
              · have hb : ((k : Int) == (I : Int)) = false := beq_eq_false_iff_ne.2 (by omega)
                rw [decide_eq_false hki, Bool.false_or] at HFK
                rw [HFK.out] at HSS
                generalize plusX (memB x) I = F at *
                clear hki
                cases hmx : memB x k
                · rw [hmx] at HC HSS
                  rw [if_neg (by decide), List.append_nil] at HSS
                  clear hmx
                  go_wp2_with fail
                  refine HC.out.mono ?_
                  rintro e w8 ⟨rfl, rfl⟩
                  go_wp2_with fail
                  go_roundw
                  case rel => exact ⟨k + 1, l, b, d, by omega, (by first | rfl | trivial), by go_num, (by rw [HSS.out]; exact HL.out), (by rw [HSS.out]; exact HO.out), HBr.out⟩
                  case measure => simp [intOf]; omega
                · rw [hmx] at HC HSS
                  rw [if_pos rfl] at HSS
                  clear hmx
                  go_wp2_with fail
                  refine HC.out.mono ?_
                  rintro e wq ⟨rfl, rfl⟩
                  have HO5 := hidIt HO.out
                  have HB5 := hidIt HBr.out
                  clear HO HBr x0 x1 lx HWr
                  have HTL : Hid ((ints (setTo F k)).length = l) := by show _ = _; rw [ints_len]; exact HL.out.symm
                  have HO7 := hidIt (HO5.out.news HTL.out (.cells #[.int .i64 (k : Int)] 3))
                  have HB7 := hidIt (HB5.out.trans (Below.mono (bgrow wq (.cells #[.int .i64 (k : Int)] 3)) HB5.out.size))
                  have hsz7 : wj.heap.size ≤ (wq.alloc (.cells #[.int .i64 (k : Int)] 3)).heap.size := HB7.out.size
                  go_wp2_with (at_builtin; refine Hid.out ?_)
                  refine hidIt ?_
                  refine wpList_append_kb rfl _ _ elemI rfl wj.heap.size (.slice b l d) l _ rfl HO7.out _ 1 rfl #[.int .i64 (k : Int)] 3 (heap_alloc_new _ _) rfl (one_of (by rfl)) (by omega) hsz7 ?_
                  intro g8 c8 w8 hown8 hg8 hbl8
                  have HB8 := hidIt (below_app5 HB7.out hg8 (fun g e => (owns_blk HO7.out g e).1) hsz7)
                  have HO8 : Hid (OwnI w8 wj.heap.size (.slice (some ⟨g8, 0, none⟩) (l + 1) c8) (ints (setTo F (k + 1)))) := by
                    have := OwnI.done HTL.out hown8
                    show OwnI _ _ _ _
                    rw [HSS.out]
                    unfold ints at this ⊢
                    rw [List.map_append]
                    exact this
                  have HL8 : Hid (l + 1 = (setTo F (k + 1)).length) := by show _ = _; rw [HSS.out, List.length_append, ← HL.out]; rfl
                  clear hown8 hg8 hbl8 HO7 HB7 hsz7 HO5 HB5
                  go_wp2_with fail
                  go_roundw
                  case rel => exact ⟨k + 1, l + 1, some ⟨g8, 0, none⟩, c8, by omega, (by first | rfl | trivial), by go_num, HL8.out, HO8.out, HB8.out⟩
                  case measure => simp [intOf]; omega
            · obtain rfl : k = N := by omega
              have hkI : ¬ (k : Int) < (k : Int) := by omega
              have HMO : Hid (IL wr (.slice b l d) (setL k (plusX (memB x) I))) := HO.out.il
              obtain ⟨H1a, H1b⟩ := And.intro (hidIt HONI.out.1) (hidIt HONI.out.2)
              have HML := hidIt (setL_len k (plusX (memB x) I))
              generalize (setL k (plusX (memB x) I)) = y at *
              have HBr2 := hidIt (HBj.out.trans (Below.mono HBr.out HBj.out.size))
              have HSr := hidIt (HS6.out.below HBr2.out)
              clear HO HL
              go_wp2_with fail
              refine (qAdmissible_any k _ _ ps y wr HWr.out.p HOK.out (by have := HPS.out; omega) HMO.out (by have := HML.out; omega) HWr.out.t).mono ?_
              rw [H1a.out]
              rintro e w8 ⟨rfl, hb8⟩
              have HB8 := hidIt (HBr2.out.trans (Below.mono hb8 HBr2.out.size))
              have HW8 := hidIt (HWr.out.go hb8)
              have HM8 := hidIt (HMO.out.below hb8)
              have HS8 := hidIt (HSr.out.below hb8)
              clear hb8 x0 x1 lx HWr HMO HSr HBr2
              have x0 := HW8.out.c0
              have x1 := HW8.out.c1
              have lx := HW8.out.l
              go_wp2_with fail
              refine (qStep_any k _ _ ps y w8 HW8.out.p HOK.out (by have := HPS.out; omega) HM8.out (by have := HML.out; omega) HW8.out.t).mono ?_
              rintro e w9 ⟨tv, rfl, ho9, hb9⟩
              have HT9 := hidIt ho9.il
              have HS9 := hidIt (HS8.out.below hb9)
              have HB9 := hidIt (HB8.out.trans (Below.mono hb9 HB8.out.size))
              have HTL := hidIt (stepL_len k ps y)
              generalize stepL k ps y = ty at *
              obtain ⟨ta, tc, rfl, -⟩ := HT9.out.form
              clear ho9 hb9 x0 x1 lx
              go_wp2_with fail
              refine (kInside_any _ _ st ty w9 HS9.out HT9.out (by have := HSLN.out; have := HLS.out; omega) (by have := HTL.out; omega)).mono ?_
              rw [H1b.out]
              rintro e w10 ⟨rfl, rfl⟩
              go_wp2_with fail
              go_roundw
              case rel => exact ⟨j + 1, by omega, by go_num, HB9.out⟩
              case measure => simp [intOf]; omega
        · obtain rfl : j = L := by omega
          have hjI : ¬ (j : Int) < (j : Int) := by omega
          have HBk := hidIt (HB6.out.trans (Below.mono HBj.out HB6.out.size))
          go_wp2_with fail
          go_roundw
          case rel => exact ⟨k + 1, by omega, by go_num, HBk.out⟩
          case measure => simp [intOf]; omega
    · obtain rfl : k = M := by omega
      have hkI : ¬ (k : Int) < (k : Int) := by omega
      go_wp2_with fail
      refine (awake13_any _ HWr.out.t).mono ?_
      rintro e w30 ⟨rfl, hb⟩
      have HBF := hidIt (HWr.out.b.trans (Below.mono hb HWr.out.b.size))
      clear hb
      go_wp2_with fail
      go_ret
      exact ⟨rfl, HBF.out⟩
end Go.Proofs.YtihmdnbeonefcaaDoor
