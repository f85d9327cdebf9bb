/- The law AdmissibleLabels: for every list of numbers it answers true. -/
import Derived.Test.YtihmdnbeonefcaaDoorZ1N1M
import Derived.Test.YtihmdnbeonefcaaDoorZ1M1I

namespace Go.Proofs.YtihmdnbeonefcaaDoor
set_option linter.unusedVariables false
set_option linter.unusedSimpArgs false
open Go Go.RowKit Go.Sort

theorem fs_at {N : Nat} {ps : List (Int × Int)} {x : List Int} {i : Nat} (hi : i < N) : (fsF N ps x).getD i 0 = labOf ps x i := by
  have h : i < (fsF N ps x).length := by rw [fsF_len]; exact hi
  rw [getD_at h, fsF_get]
theorem lab_hit {N : Nat} {ps : List (Int × Int)} (hix : ∀ p ∈ ps, (0 ≤ p.1 ∧ p.1 < (N : Int)) ∧ (0 ≤ p.2 ∧ p.2 < (N : Int))) (x : List Int) (i : Nat) : (ps.any fun p => p.2 == (i : Int) && decide (p.1 ∈ x)) = hitX ps (memB x) i := by
  unfold hitX
  rw [Bool.eq_iff_iff, List.any_eq_true, List.any_eq_true]
  constructor
  · rintro ⟨p, hp, h⟩
    refine ⟨p, hp, ?_⟩
    have := hix p hp
    unfold memB
    rwa [show ((p.1.toNat : Nat) : Int) = p.1 by omega]
  · rintro ⟨p, hp, h⟩
    refine ⟨p, hp, ?_⟩
    have := hix p hp
    unfold memB at h
    rwa [show ((p.1.toNat : Nat) : Int) = p.1 by omega] at h
theorem lab_val {N : Nat} {ps : List (Int × Int)} (hix : ∀ p ∈ ps, (0 ≤ p.1 ∧ p.1 < (N : Int)) ∧ (0 ≤ p.2 ∧ p.2 < (N : Int))) (x : List Int) (i : Nat) : labOf ps x i = if memB x i = true then 1 else if hitX ps (memB x) i = true then 2 else 3 := by
  unfold labOf
  rw [lab_hit hix]
  rfl
theorem lab_one {N : Nat} {ps : List (Int × Int)} (hix : ∀ p ∈ ps, (0 ≤ p.1 ∧ p.1 < (N : Int)) ∧ (0 ≤ p.2 ∧ p.2 < (N : Int))) {x : List Int} {i : Nat} : labOf ps x i = 1 ↔ memB x i = true := by
  rw [lab_val hix]
  by_cases h : memB x i = true
  · simp [h]
  · rw [if_neg h]
    by_cases h2 : hitX ps (memB x) i = true
    · simp [h, h2]
    · simp [h, h2]
theorem lab_two {N : Nat} {ps : List (Int × Int)} (hix : ∀ p ∈ ps, (0 ≤ p.1 ∧ p.1 < (N : Int)) ∧ (0 ≤ p.2 ∧ p.2 < (N : Int))) {x : List Int} {i : Nat} : labOf ps x i = 2 ↔ memB x i = false ∧ hitX ps (memB x) i = true := by
  rw [lab_val hix]
  by_cases h : memB x i = true
  · simp [h]
  · rw [if_neg h]
    by_cases h2 : hitX ps (memB x) i = true
    · simp [h, h2]
    · simp [h, h2]
theorem cmp_labels {N : Nat} {ps : List (Int × Int)} (hix : ∀ p ∈ ps, (0 ≤ p.1 ∧ p.1 < (N : Int)) ∧ (0 ≤ p.2 ∧ p.2 < (N : Int))) (x : List Int) : CmpG N ps (fsF N ps x) ↔ compX N ps (memB x) = true := by
  have key : ∀ i, i < N → (fsF N ps x).getD i 0 = labOf ps x i := fun i hi => fs_at hi
  have k1 : ∀ i, i < N → ((fsF N ps x).getD i 0 = 1 ↔ memB x i = true) := fun i hi => by rw [key i hi]; exact lab_one hix
  have k2 : ∀ i, i < N → ((fsF N ps x).getD i 0 = 2 ↔ memB x i = false ∧ hitX ps (memB x) i = true) := fun i hi => by rw [key i hi]; exact lab_two hix
  rw [compX_iff]
  constructor
  · intro h
    have hit2 : ∀ i, i < N → hitX ps (memB x) i = true → (fsF N ps x).getD i 0 = 2 := fun i hi hh => by
      obtain ⟨k, hk, hx⟩ := (hitX_iff hix).1 hh
      exact (h.two i hi).2 ⟨k, hk, (k1 k (at_lt hix hk).1).2 hx⟩
    refine ⟨(cfX_iff hix).2 fun k i hk hx hy => ?_, fun i hi hx => (dfX_iff hix).2 fun k hk => ?_, fun i hi hd => ?_⟩
    · have h1 := (h.two i (at_lt hix hk).2).2 ⟨k, hk, (k1 k (at_lt hix hk).1).2 hx⟩
      have h2 := (k1 i (at_lt hix hk).2).2 hy
      omega
    · have h1 := (h.one i hi).1 ((k1 i hi).2 hx) k hk
      exact (hitX_iff hix).1 ((k2 k (at_lt hix hk).1).1 h1).2
    · refine (k1 i hi).1 ((h.one i hi).2 fun k hk => hit2 k (at_lt hix hk).1 ?_)
      exact (hitX_iff hix).2 ((dfX_iff hix).1 hd k hk)
  · rintro ⟨hc, hd, ha⟩
    have hcf := (cfX_iff hix).1 hc
    refine ⟨fsF_len .., fun v hv => ?_, fun i hi => ⟨fun e => ?_, fun ⟨k, hk, e⟩ => ?_⟩, fun i hi => ⟨fun e k hk => ?_, fun hall => ?_⟩⟩
    · obtain ⟨i, hi, rfl⟩ := List.getElem_of_mem hv
      rw [fsF_get]
      exact labOf_lab ps x i
    · obtain ⟨k, hk, hx⟩ := (hitX_iff hix).1 ((k2 i hi).1 e).2
      exact ⟨k, hk, (k1 k (at_lt hix hk).1).2 hx⟩
    · have hx := (k1 k (at_lt hix hk).1).1 e
      refine (k2 i hi).2 ⟨?_, (hitX_iff hix).2 ⟨k, hk, hx⟩⟩
      rw [Bool.eq_false_iff]
      exact fun hy => hcf k i hk hx hy
    · have hx := (k1 i hi).1 e
      obtain ⟨m, hm, hy⟩ := (dfX_iff hix).1 (hd i hi hx) k hk
      refine (k2 k (at_lt hix hk).1).2 ⟨?_, (hitX_iff hix).2 ⟨m, hm, hy⟩⟩
      rw [Bool.eq_false_iff]
      exact fun hy => hcf k i hk hy hx
    · refine (k1 i hi).2 (ha i hi ((dfX_iff hix).2 fun k hk => ?_))
      exact (hitX_iff hix).1 ((k2 k (at_lt hix hk).1).1 (hall k hk)).2
theorem with_labels {N : Nat} {ps : List (Int × Int)} (hix : ∀ p ∈ ps, (0 ≤ p.1 ∧ p.1 < (N : Int)) ∧ (0 ≤ p.2 ∧ p.2 < (N : Int))) {x : List Int} (hs : setB N x = true) : ints (withF (fsF N ps x) 1) = x := by
  conv => rhs; rw [setB_eq hs]
  unfold setL withF
  rw [fsF_len]
  congr 1
  apply List.filter_congr
  intro i hi
  have hi := List.mem_range.1 hi
  have hl : i < (fsF N ps x).length := by rw [fsF_len]; exact hi
  rw [List.getElem?_eq_getElem hl, fsF_get, Bool.eq_iff_iff, decide_eq_true_eq]
  simp only [Option.some.injEq]
  exact lab_one hix
theorem labels_comp {N : Nat} {ps : List (Int × Int)} (hix : ∀ p ∈ ps, (0 ≤ p.1 ∧ p.1 < (N : Int)) ∧ (0 ≤ p.2 ∧ p.2 < (N : Int))) {x : List Int} (hs : setB N x = true) : (setB N x && compX N ps (memB x)) = compB N ps (fsF N ps x) := by
  rw [hs, Bool.true_and, Bool.eq_iff_iff, comp_iff hix, cmp_labels hix]
theorem labels_stab {N : Nat} {ps : List (Int × Int)} (hix : ∀ p ∈ ps, (0 ≤ p.1 ∧ p.1 < (N : Int)) ∧ (0 ≤ p.2 ∧ p.2 < (N : Int))) {x : List Int} (hs : setB N x = true) : (setB N x && stabX N ps (memB x)) = (compB N ps (fsF N ps x) && !decide ((3 : Int) ∈ fsF N ps x)) := by
  rw [← labels_comp hix hs, hs, Bool.true_and, Bool.true_and, Bool.eq_iff_iff, Bool.and_eq_true, Bool.not_eq_true', decide_eq_false_iff_not]
  constructor
  · intro h
    refine ⟨stab_comp hix h, fun hm => ?_⟩
    obtain ⟨i, hi, e⟩ := List.getElem_of_mem hm
    rw [fsF_get, lab_val hix] at e
    rw [fsF_len] at hi
    rcases ((stabX_iff hix).1 h).2 i hi with g | g
    · rw [if_pos g] at e; cases e
    · rw [if_pos ((hitX_iff hix).2 g)] at e
      split at e <;> cases e
  · rintro ⟨hc, hm⟩
    refine (stabX_iff hix).2 ⟨(compX_iff.1 hc).1, fun i hi => ?_⟩
    by_cases hx : memB x i = true
    · exact .inl hx
    · by_cases hh : hitX ps (memB x) i = true
      · exact .inr ((hitX_iff hix).1 hh)
      · exfalso
        apply hm
        have hl : i < (fsF N ps x).length := by rw [fsF_len]; exact hi
        have e : (fsF N ps x)[i] = 3 := by rw [fsF_get, lab_val hix, if_neg hx, if_neg hh]
        rw [← e]
        exact List.getElem_mem hl

set_option maxRecDepth 100000 in
set_option maxHeartbeats 4000000 in
theorem labels13_walk (lv : Value) (zs : List Int) (w : World) (hz : IntsAt w w.heap.size lv zs) (hT : Tab w) :
    Calls Tryd.prog 9 #[lv] w fun e w' => e = .returned (.bool true) ∧ Below w.heap.size w w' := by
  have HT := hidIt hT
  have HZ := hidIt hz
  clear hz hT
  go_enter Tryd.func9, Tryd.ntmps9
  go_wp2_with fail
  refine (new_any lv zs w.heap.size w HZ.out (Nat.le_refl _)).mono ?_
  rintro e w1 ⟨zs', rfl, hs1, o1, rfl⟩
  have HS1 := hidIt hs1
  have HB1 := hidIt (bgrow w o1)
  have hsz1 : w.heap.size < (w.alloc o1).heap.size := hs1.lt
  clear hs1
  generalize w.alloc o1 = w1 at *
  go_wp2_with fail
  refine (kGraph_any 7 (by decide) _ _ _ _ w1 HS1.out).mono ?_
  rintro e w2 ⟨N, ps, ga, gc, k2, rfl, hN, hok, hpl, hop, hs2, hg2⟩
  have HOK := hidIt hok
  have HPS := hidIt hpl
  have hgr := bgrow w2 (.cells #[.int .i64 (N : Int), .slice ga ps.length gc] 27)
  have HB2 := hidIt (below_read13 HB1.out hg2 (Nat.le_of_lt hsz1))
  have HW3 : Hid (LW w w2.heap.size N ga gc ps (w2.alloc (.cells #[.int .i64 (N : Int), .slice ga ps.length gc] 27))) :=
    ⟨heap_alloc_new w2 _, (hop.below hgr).lits, (HT.out.go HB2.out).go hgr, HB2.out.trans (Below.mono hgr HB2.out.size)⟩
  clear hok hpl hop hs2 hg2 hgr HB2 HS1 HB1
  go_upto_region 3 with (fail)
  generalize (w2.alloc (.cells #[.int .i64 (N : Int), .slice ga ps.length gc] 27)) = w3 at *
  generalize w2.heap.size = G at *
  have x0 := HW3.out.c0
  have x1 := HW3.out.c1
  have lx := HW3.out.l
  go_wp2_with fail
  refine (rlSets_any N (by omega) w3).mono ?_
  rintro e w4 ⟨la, lc, rfl, hll, hb4⟩
  have HW4 := hidIt (HW3.out.go hb4)
  obtain ⟨la', lc', hle, hcs⟩ := hll.form
  injection hle with hle1 hle2 hle3
  subst hle1 hle3
  have HLC := hidIt hcs
  have HSL := hidIt (setsL_len N)
  have HST : Hid (∀ i (h : i < (setsL N).length), setB N (setsL N)[i] = true) := fun i h => setsL_set h
  obtain ⟨M, hM⟩ : ∃ M, M = 2 ^ N := ⟨_, rfl⟩
  rw [← hM] at HSL ⊢
  have HM := hidIt hM
  have hM128 : M ≤ 1024 := by rw [hM]; exact Nat.pow_le_pow_right (by decide) (by omega : N ≤ 10)
  clear hll hb4 hle2 hcs hM HW3
  clear x0 x1 lx
  go_wp2_with fail
  go_loopw [6, 7, 16] (fun _ _ i wr => ∃ k : Nat, k ≤ M ∧ i = .int .i64 k ∧ Hid (Below w4.heap.size w4 wr)) (fun _ _ i _ => M - (intOf i).toNat)
  case atStart => exact ⟨0, Nat.zero_le _, (by first | rfl | trivial), Below.refl _ _⟩
  case round =>
    obtain ⟨k, hk, rfl, HB⟩ := hrel
    have hk0 : (0 : Int) ≤ (k : Int) := by omega
    have HWr := hidIt (HW4.out.go HB.out)
    by_cases hlt : k < M
    · have hkI : (k : Int) < (M : Int) := by omega
      have hkz : k < (setsL N).length := by have := HSL.out; omega
      obtain ⟨bo, oo, u, rfl, lo, cu, iu⟩ := HLC.out k hkz
      have cu2 := (Below.cell (p := ⟨bo, oo + k, none⟩) HB.out lo).trans cu
      have lo2 := Nat.lt_of_lt_of_le lo HB.out.size
      have HI4 := hidIt iu
      have HSX := hidIt (HST.out k hkz)
      generalize (setsL N)[k] = x at *
      obtain ⟨xa, xc, rfl, -⟩ := HI4.out.form
      have HXL : Hid (x.length ≤ 10) := Nat.le_trans (setB_len HSX.out) (by omega)
      clear cu iu lo hkz
      have x0 := HWr.out.c0
      have x1 := HWr.out.c1
      have lx := HWr.out.l
      go_wp2_with fail
      refine (lFromSet_any N _ _ ps x wr HWr.out.p HOK.out HPS.out (HI4.out.below HB.out) (by have := HXL.out; omega)).mono ?_
      rintro e w5 ⟨R, rfl, -, hr5, hb5⟩
      have HYL := hidIt (fsF_len N ps x)
      have HLC1 := hidIt (labels_comp HOK.out.ix HSX.out)
      have HLS1 := hidIt (labels_stab HOK.out.ix HSX.out)
      have HLW1 := hidIt (with_labels (N := N) (ps := ps) HOK.out.ix HSX.out)
      have HY5 : Hid (IL w5 (.slice (some ⟨R, 0, none⟩) N N) (fsF N ps x)) := by
        have h := hr5.il (c := N) (by rw [fsF_len]; exact Nat.le_refl _) (by unfold maxLen; omega)
        rwa [fsF_len] at h
      have HB5 := hidIt (HB.out.trans (Below.mono hb5 HB.out.size))
      have HW5 := hidIt (HW4.out.go HB5.out)
      have HI5 := hidIt (HI4.out.below HB5.out)
      clear hr5 hb5 HB HWr cu2 lo2 x0 x1 lx
      generalize fsF N ps x = y at *
      have x0 := HW5.out.c0
      have x1 := HW5.out.c1
      have lx := HW5.out.l
      go_wp2_with fail
      have HR9 : Hid (∀ w6 : World, Below w5.heap.size w5 w6 → LW w G N ga gc ps w6 ∧ IL w6 (.slice xa x.length xc) x ∧ IL w6 (.slice (some ⟨R, 0, none⟩) N N) y) := fun w6 h => ⟨HW5.out.go h, HI5.out.below h, HY5.out.below h⟩
      have HCB : Hid (∀ wx : World, Ext w5 wx → Calls Tryd.prog 43 #[.agg #[.int .i64 (N : Int), .slice ga ps.length gc], .slice (some ⟨R, 0, none⟩) N N] wx fun e w' => e = .returned (.bool (compB N ps y)) ∧ Below wx.heap.size wx w') := fun wx hC =>
        lIsComplete_any N _ _ ps y wx (HR9.out wx hC).1.p HOK.out HPS.out (HR9.out wx hC).2.2 (by have := HYL.out; omega)
      have HCA : Hid (∀ wx : World, Ext w5 wx → Calls Tryd.prog 20 #[.agg #[.int .i64 (N : Int), .slice ga ps.length gc], .slice xa x.length xc] wx fun e w' => e = .returned (.bool (compB N ps y)) ∧ Below wx.heap.size wx w') := fun wx hC => by
        have := qIsComplete_any N _ _ ps x wx (HR9.out wx hC).1.p HOK.out (by have := HPS.out; omega) (HR9.out wx hC).2.1 (by have := HXL.out; omega) (HR9.out wx hC).1.t
        rwa [HLC1.out] at this
      have HCD : Hid (∀ wx : World, Ext w5 wx → Calls Tryd.prog 37 #[.slice (some ⟨R, 0, none⟩) N N, .int .i64 3] wx fun e w' => e = .returned (.bool (decide ((3 : Int) ∈ y))) ∧ Below wx.heap.size wx w') := fun wx hC =>
        (kIn_any _ y 3 wx (HR9.out wx hC).2.2 (by have := HYL.out; omega)).mono fun e w' ⟨h1, h2⟩ => ⟨h1, by rw [h2]; exact Below.refl _ _⟩
      cases hcp : compB N ps y
      · rw [hcp] at HCA HCB HLS1
        rw [Bool.false_and] at HLS1
        have X0 := fun y => Ext.cell x0 y
        have X1 := fun y => Ext.cell x1 y
        have LX := fun y : In (Ext w5) => Nat.lt_of_lt_of_le lx (Below.size y.h)
        have HCP := hidIt hcp
        clear hcp HLC1
        haveI := Ext.nonempty w5
        refine wp_region_in (Ext w5) (by kernel_rfl) (by kernel_rfl) (Ext.start w5) ?_
        repeat (go_big_quiet_step (first | (go_at_call 20; refine Ext.call (HCA.out _ (In.h _))) | (go_at_call 43; refine Ext.call (HCB.out _ (In.h _))) | (go_at_call 37; refine Ext.call (HCD.out _ (In.h _)))))
        refine wpQuiet_nil ?_
        rintro wq ⟨⟨_, hq⟩, rfl⟩
        have HQ := hidIt (show Below w5.heap.size w5 _ from hq)
        clear hq X0 X1 LX x0 x1 lx HCA HCB HCD
        have HR6 : Hid (∀ w7 : World, Below wq.heap.size wq w7 → LW w G N ga gc ps w7 ∧ IL w7 (.slice xa x.length xc) x ∧ IL w7 (.slice (some ⟨R, 0, none⟩) N N) y) := fun w7 h => HR9.out w7 (HQ.out.trans (Below.mono h HQ.out.size))
        have HCB : Hid (∀ wx : World, Ext wq wx → Calls Tryd.prog 43 #[.agg #[.int .i64 (N : Int), .slice ga ps.length gc], .slice (some ⟨R, 0, none⟩) N N] wx fun e w' => e = .returned (.bool false) ∧ Below wx.heap.size wx w') := fun wx hC => by
          have := lIsComplete_any N _ _ ps y wx (HR6.out wx hC).1.p HOK.out HPS.out (HR6.out wx hC).2.2 (by have := HYL.out; omega)
          change Calls _ _ _ _ fun e w' => e = .returned (.bool (compB N ps y)) ∧ _ at this
          rwa [HCP.out] at this
        have HCA : Hid (∀ wx : World, Ext wq wx → Calls Tryd.prog 22 #[.agg #[.int .i64 (N : Int), .slice ga ps.length gc], .slice xa x.length xc] wx fun e w' => e = .returned (.bool false) ∧ Below wx.heap.size wx w') := fun wx hC => by
          have := qIsStable_any N _ _ ps x wx (HR6.out wx hC).1.p HOK.out (by have := HPS.out; omega) (HR6.out wx hC).2.1 (by have := HXL.out; omega) (HR6.out wx hC).1.t
          rwa [HLS1.out] at this
        have HCD : Hid (∀ wx : World, Ext wq wx → Calls Tryd.prog 37 #[.slice (some ⟨R, 0, none⟩) N N, .int .i64 3] wx fun e w' => e = .returned (.bool (decide ((3 : Int) ∈ y))) ∧ Below wx.heap.size wx w') := fun wx hC => by
          have := (kIn_any _ y 3 wx (HR6.out wx hC).2.2 (by have := HYL.out; omega)).mono (R' := fun e w' => e = .returned (.bool (decide ((3 : Int) ∈ y))) ∧ Below wx.heap.size wx w') fun e w' ⟨h1, h2⟩ => ⟨h1, by rw [h2]; exact Below.refl _ _⟩
          exact this
        obtain ⟨x0, x1⟩ := And.intro (HR6.out wq (Below.refl _ _)).1.c0 (HR6.out wq (Below.refl _ _)).1.c1
        have lx := (HR6.out wq (Below.refl _ _)).1.l
        have X0 := fun y => Ext.cell x0 y
        have X1 := fun y => Ext.cell x1 y
        have LX := fun y : In (Ext wq) => Nat.lt_of_lt_of_le lx (Below.size y.h)
        go_wp2_with fail
        haveI := Ext.nonempty wq
        refine wp_region_in (Ext wq) (by kernel_rfl) (by kernel_rfl) (Ext.start wq) ?_
        repeat (go_big_quiet_step (first | (go_at_call 22; refine Ext.call (HCA.out _ (In.h _))) | (go_at_call 43; refine Ext.call (HCB.out _ (In.h _))) | (go_at_call 37; refine Ext.call (HCD.out _ (In.h _)))))
        refine wpQuiet_nil ?_
        rintro wz ⟨⟨_, hq⟩, rfl⟩
        have HQ2 := hidIt (HB5.out.trans (Below.mono (HQ.out.trans (Below.mono hq HQ.out.size)) HB5.out.size))
        clear hq X0 X1 LX x0 x1 lx HCA HCB
        go_wp2_with fail
        go_roundw
        case rel => exact ⟨k + 1, by omega, by go_num, HQ2.out⟩
        case measure => simp [intOf]; omega
      · rw [hcp] at HCA HCB HLS1
        rw [Bool.true_and] at HLS1
        have X0 : ∀ wx, Ext w5 wx → wx.cell? ⟨G, 0, none⟩ = some (.int .i64 (N : Int)) := fun wx hC => (Below.cell (p := ⟨G, 0, none⟩) hC lx).trans x0
        have X1 : ∀ wx, Ext w5 wx → wx.cell? ⟨G, 1, none⟩ = some (.slice ga ps.length gc) := fun wx hC => (Below.cell (p := ⟨G, 1, none⟩) hC lx).trans x1
        have CA : Hid (∀ wx, Ext w5 wx → Calls Tryd.prog 20 #[.agg #[.int .i64 (N : Int), .slice ga ps.length gc], .slice xa x.length xc] wx fun e w'' => ∃ u, e = .returned u ∧ Ext w5 w'' ∧ Grows wx w'' ∧ isB true u w'') := fun wx hC => rel_call hC ((HCA.out wx hC).mono fun e w'' ⟨h1, h2⟩ => ⟨_, h1, rfl, h2⟩)
        have CB : Hid (∀ wx, Ext w5 wx → Calls Tryd.prog 43 #[.agg #[.int .i64 (N : Int), .slice ga ps.length gc], .slice (some ⟨R, 0, none⟩) N N] wx fun e w'' => ∃ u, e = .returned u ∧ Ext w5 w'' ∧ Grows wx w'' ∧ isB true u w'') := fun wx hC => rel_call hC ((HCB.out wx hC).mono fun e w'' ⟨h1, h2⟩ => ⟨_, h1, rfl, h2⟩)
        have CW : Hid (∀ wx, Ext w5 wx → Calls Tryd.prog 39 #[.slice (some ⟨R, 0, none⟩) N N, .int .i64 1] wx fun e w'' => ∃ u, e = .returned u ∧ Ext w5 w'' ∧ Grows wx w'' ∧ isIq13 x.length x u w'') := fun wx hC => rel_call hC ((lWith_any _ y 1 wx (HR9.out wx hC).2.2 (by have := HYL.out; omega)).mono fun e w'' ⟨wa, wc, h1, h2, h3⟩ => ⟨_, h1, ⟨wa, wc, by rw [← HLW1.out, ints_len], by have := h2.il; rw [HLW1.out] at this; rw [← ints_len, HLW1.out] at this; exact this⟩, h3⟩)
        have CI : Hid (∀ wx a1 c1, Ext w5 wx → IL wx (.slice a1 x.length c1) x → Calls Tryd.prog 24 #[.slice a1 x.length c1, .slice xa x.length xc] wx fun e w'' => ∃ u, e = .returned u ∧ Ext w5 w'' ∧ Grows wx w'' ∧ isB true u w'') := fun wx a1 c1 hC h1 => rel_call hC ((kInts_any _ _ x x wx h1 (HR9.out wx hC).2.1 (by have := HXL.out; omega) (by have := HXL.out; omega)).mono fun e w'' ⟨h3, h4⟩ => ⟨_, h3, (by rw [decide_eq_true rfl]; rfl), h4⟩)
        have HCP := hidIt hcp
        clear hcp HLC1 HCA HCB HCD
        haveI := Ext.nonempty w5
        refine wp_region_rel (Ext w5) Grows (relTab [(25, isB true), (28, isB true), (31, isIq13 x.length x), (33, isB true)]) (by kernel_rfl) (by kernel_rfl) (by kernel_rfl) (stable_cons (isB_up _) (stable_cons (isB_up _) (stable_cons (isIq13_up _ _) (stable_cons (isB_up _) (stable_nil _))))) (Ext.start w5) ?_
        repeat (
          refine' walkR_plain (by kernel_rfl) rfl rfl (fun wx hC hL => ?_) ?_
          rotate_left
          · (have hls := Below.size hC
             have hllx := Nat.lt_of_lt_of_le lx hls
             simp only [X0 wx hC, X1 wx hC, hllx, go_sem]; first | done | (go_simp; exact ⟨rfl, rfl⟩))
          simp only [Act.put, List.setIfInBounds_toArray, List.set_cons_zero, List.set_cons_succ])
        refine walkR_rel (by kernel_rfl) rfl rfl (of_decide_eq_true (by kernel_rfl)) (fun wx hC hL => ?_) (fun v hv => ?_)
        · go_simp
          exact CA.out wx hC
        obtain ⟨_, _, rfl⟩ := hv
        simp only [Act.put, List.setIfInBounds_toArray, List.set_cons_zero, List.set_cons_succ]
        repeat (
          refine' walkR_plain (by kernel_rfl) rfl rfl (fun wx hC hL => ?_) ?_
          rotate_left
          · (have hls := Below.size hC
             have hllx := Nat.lt_of_lt_of_le lx hls
             simp only [X0 wx hC, X1 wx hC, hllx, go_sem]; first | done | (go_simp; exact ⟨rfl, rfl⟩))
          simp only [Act.put, List.setIfInBounds_toArray, List.set_cons_zero, List.set_cons_succ])
        refine walkR_rel (by kernel_rfl) rfl rfl (of_decide_eq_true (by kernel_rfl)) (fun wx hC hL => ?_) (fun v hv => ?_)
        · go_simp
          exact CB.out wx hC
        obtain ⟨_, _, rfl⟩ := hv
        simp only [Act.put, List.setIfInBounds_toArray, List.set_cons_zero, List.set_cons_succ]
        repeat (
          refine' walkR_plain (by kernel_rfl) rfl rfl (fun wx hC hL => ?_) ?_
          rotate_left
          · (have hls := Below.size hC
             have hllx := Nat.lt_of_lt_of_le lx hls
             simp only [X0 wx hC, X1 wx hC, hllx, go_sem]; first | done | (go_simp; exact ⟨rfl, rfl⟩))
          simp only [Act.put, List.setIfInBounds_toArray, List.set_cons_zero, List.set_cons_succ])
        refine walkR_rel (by kernel_rfl) rfl rfl (of_decide_eq_true (by kernel_rfl)) (fun wx hC hL => ?_) (fun v hv => ?_)
        · go_simp
          exact CW.out wx hC
        obtain ⟨_, _, a31, c31, rfl, -⟩ := hv
        simp only [Act.put, List.setIfInBounds_toArray, List.set_cons_zero, List.set_cons_succ]
        repeat (
          refine' walkR_plain (by kernel_rfl) rfl rfl (fun wx hC hL => ?_) ?_
          rotate_left
          · (have hls := Below.size hC
             have hllx := Nat.lt_of_lt_of_le lx hls
             simp only [X0 wx hC, X1 wx hC, hllx, go_sem]; first | done | (go_simp; exact ⟨rfl, rfl⟩))
          simp only [Act.put, List.setIfInBounds_toArray, List.set_cons_zero, List.set_cons_succ])
        refine walkR_rel (by kernel_rfl) rfl rfl (of_decide_eq_true (by kernel_rfl)) (fun wx hC hL => ?_) (fun v hv => ?_)
        · have k31 := hidIt (isIq13_use (hL.get 31 (by simp [more]) (by kernel_rfl) rfl rfl))
          go_simp
          exact CI.out wx a31 c31 hC k31.out
        obtain ⟨_, _, rfl⟩ := hv
        simp only [Act.put, List.setIfInBounds_toArray, List.set_cons_zero, List.set_cons_succ]
        repeat (
          refine' walkR_plain (by kernel_rfl) rfl rfl (fun wx hC hL => ?_) ?_
          rotate_left
          · (have hls := Below.size hC
             have hllx := Nat.lt_of_lt_of_le lx hls
             simp only [X0 wx hC, X1 wx hC, hllx, go_sem]; first | done | (go_simp; exact ⟨rfl, rfl⟩))
          simp only [Act.put, List.setIfInBounds_toArray, List.set_cons_zero, List.set_cons_succ])
        refine fun wq hCq hK => ?_
        have HQ := hidIt (show Below w5.heap.size w5 wq from hCq)
        clear hK hCq X0 X1 x0 x1 lx CA CB CW CI
        cases h3 : decide ((3 : Int) ∈ y)
        · rw [h3] at HLS1
          rw [Bool.not_false] at HLS1
          have HR6 : Hid (∀ w7 : World, Below wq.heap.size wq w7 → LW w G N ga gc ps w7 ∧ IL w7 (.slice xa x.length xc) x ∧ IL w7 (.slice (some ⟨R, 0, none⟩) N N) y) := fun w7 h => HR9.out w7 (HQ.out.trans (Below.mono h HQ.out.size))
          have HCB : Hid (∀ wx : World, Ext wq wx → Calls Tryd.prog 43 #[.agg #[.int .i64 (N : Int), .slice ga ps.length gc], .slice (some ⟨R, 0, none⟩) N N] wx fun e w' => e = .returned (.bool true) ∧ Below wx.heap.size wx w') := fun wx hC => by
            have := lIsComplete_any N _ _ ps y wx (HR6.out wx hC).1.p HOK.out HPS.out (HR6.out wx hC).2.2 (by have := HYL.out; omega)
            change Calls _ _ _ _ fun e w' => e = .returned (.bool (compB N ps y)) ∧ _ at this
            rwa [HCP.out] at this
          have HCA : Hid (∀ wx : World, Ext wq wx → Calls Tryd.prog 22 #[.agg #[.int .i64 (N : Int), .slice ga ps.length gc], .slice xa x.length xc] wx fun e w' => e = .returned (.bool true) ∧ Below wx.heap.size wx w') := fun wx hC => by
            have := qIsStable_any N _ _ ps x wx (HR6.out wx hC).1.p HOK.out (by have := HPS.out; omega) (HR6.out wx hC).2.1 (by have := HXL.out; omega) (HR6.out wx hC).1.t
            rwa [HLS1.out] at this
          have HCD : Hid (∀ wx : World, Ext wq wx → Calls Tryd.prog 37 #[.slice (some ⟨R, 0, none⟩) N N, .int .i64 3] wx fun e w' => e = .returned (.bool false) ∧ Below wx.heap.size wx w') := fun wx hC => by
            have := (kIn_any _ y 3 wx (HR6.out wx hC).2.2 (by have := HYL.out; omega)).mono (R' := fun e w' => e = .returned (.bool (decide ((3 : Int) ∈ y))) ∧ Below wx.heap.size wx w') fun e w' ⟨h1, h2⟩ => ⟨h1, by rw [h2]; exact Below.refl _ _⟩
            rwa [h3] at this
          obtain ⟨x0, x1⟩ := And.intro (HR6.out wq (Below.refl _ _)).1.c0 (HR6.out wq (Below.refl _ _)).1.c1
          have lx := (HR6.out wq (Below.refl _ _)).1.l
          have X0 := fun y => Ext.cell x0 y
          have X1 := fun y => Ext.cell x1 y
          have LX := fun y : In (Ext wq) => Nat.lt_of_lt_of_le lx (Below.size y.h)
          go_wp2_with fail
          haveI := Ext.nonempty wq
          refine wp_region_in (Ext wq) (by kernel_rfl) (by kernel_rfl) (Ext.start wq) ?_
          repeat (go_big_quiet_step (first | (go_at_call 22; refine Ext.call (HCA.out _ (In.h _))) | (go_at_call 43; refine Ext.call (HCB.out _ (In.h _))) | (go_at_call 37; refine Ext.call (HCD.out _ (In.h _)))))
          refine wpQuiet_nil ?_
          rintro wz ⟨⟨_, hq⟩, rfl⟩
          have HQ2 := hidIt (HB5.out.trans (Below.mono (HQ.out.trans (Below.mono hq HQ.out.size)) HB5.out.size))
          clear hq X0 X1 LX x0 x1 lx HCA HCB
          go_wp2_with fail
          go_roundw
          case rel => exact ⟨k + 1, by omega, by go_num, HQ2.out⟩
          case measure => simp [intOf]; omega
        · rw [h3] at HLS1
          rw [Bool.not_true] at HLS1
          have HR6 : Hid (∀ w7 : World, Below wq.heap.size wq w7 → LW w G N ga gc ps w7 ∧ IL w7 (.slice xa x.length xc) x ∧ IL w7 (.slice (some ⟨R, 0, none⟩) N N) y) := fun w7 h => HR9.out w7 (HQ.out.trans (Below.mono h HQ.out.size))
          have HCB : Hid (∀ wx : World, Ext wq wx → Calls Tryd.prog 43 #[.agg #[.int .i64 (N : Int), .slice ga ps.length gc], .slice (some ⟨R, 0, none⟩) N N] wx fun e w' => e = .returned (.bool true) ∧ Below wx.heap.size wx w') := fun wx hC => by
            have := lIsComplete_any N _ _ ps y wx (HR6.out wx hC).1.p HOK.out HPS.out (HR6.out wx hC).2.2 (by have := HYL.out; omega)
            change Calls _ _ _ _ fun e w' => e = .returned (.bool (compB N ps y)) ∧ _ at this
            rwa [HCP.out] at this
          have HCA : Hid (∀ wx : World, Ext wq wx → Calls Tryd.prog 22 #[.agg #[.int .i64 (N : Int), .slice ga ps.length gc], .slice xa x.length xc] wx fun e w' => e = .returned (.bool false) ∧ Below wx.heap.size wx w') := fun wx hC => by
            have := qIsStable_any N _ _ ps x wx (HR6.out wx hC).1.p HOK.out (by have := HPS.out; omega) (HR6.out wx hC).2.1 (by have := HXL.out; omega) (HR6.out wx hC).1.t
            rwa [HLS1.out] at this
          have HCD : Hid (∀ wx : World, Ext wq wx → Calls Tryd.prog 37 #[.slice (some ⟨R, 0, none⟩) N N, .int .i64 3] wx fun e w' => e = .returned (.bool true) ∧ Below wx.heap.size wx w') := fun wx hC => by
            have := (kIn_any _ y 3 wx (HR6.out wx hC).2.2 (by have := HYL.out; omega)).mono (R' := fun e w' => e = .returned (.bool (decide ((3 : Int) ∈ y))) ∧ Below wx.heap.size wx w') fun e w' ⟨h1, h2⟩ => ⟨h1, by rw [h2]; exact Below.refl _ _⟩
            rwa [h3] at this
          obtain ⟨x0, x1⟩ := And.intro (HR6.out wq (Below.refl _ _)).1.c0 (HR6.out wq (Below.refl _ _)).1.c1
          have lx := (HR6.out wq (Below.refl _ _)).1.l
          have X0 := fun y => Ext.cell x0 y
          have X1 := fun y => Ext.cell x1 y
          have LX := fun y : In (Ext wq) => Nat.lt_of_lt_of_le lx (Below.size y.h)
          go_wp2_with fail
          haveI := Ext.nonempty wq
          refine wp_region_in (Ext wq) (by kernel_rfl) (by kernel_rfl) (Ext.start wq) ?_
          repeat (go_big_quiet_step (first | (go_at_call 22; refine Ext.call (HCA.out _ (In.h _))) | (go_at_call 43; refine Ext.call (HCB.out _ (In.h _))) | (go_at_call 37; refine Ext.call (HCD.out _ (In.h _)))))
          refine wpQuiet_nil ?_
          rintro wz ⟨⟨_, hq⟩, rfl⟩
          have HQ2 := hidIt (HB5.out.trans (Below.mono (HQ.out.trans (Below.mono hq HQ.out.size)) HB5.out.size))
          clear hq X0 X1 LX x0 x1 lx HCA HCB
          go_wp2_with fail
          go_roundw
          case rel => exact ⟨k + 1, by omega, by go_num, HQ2.out⟩
          case measure => simp [intOf]; omega
    · obtain rfl : k = M := by omega
      have hkI : ¬ (k : Int) < (k : Int) := by omega
      go_wp2_with fail
      refine (awake13_any _ HWr.out.t).mono ?_
      rintro e w30 ⟨rfl, hb⟩
      have HBF := hidIt (HWr.out.b.trans (Below.mono hb HWr.out.b.size))
      clear hb
      go_wp2_with fail
      go_ret
      exact ⟨rfl, HBF.out⟩
end Go.Proofs.YtihmdnbeonefcaaDoor
