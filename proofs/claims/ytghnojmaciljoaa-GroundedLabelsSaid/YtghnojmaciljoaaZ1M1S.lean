/- The reference's Label and Ranks; the law GroundedLabels: for every list of numbers it answers true. -/
import Derived.Test.YtghnojmaciljoaaZ1M1Q
import Derived.Test.YtghnojmaciljoaaL1M

namespace Go.Proofs.Ytghnojmaciljoaa
set_option linter.unusedVariables false
set_option linter.unusedSimpArgs false
open Go Go.RowKit Go.Sort

set_option maxRecDepth 100000 in
set_option maxHeartbeats 1000000 in
theorem rdLabel_rel {N : Nat} {a : Option Addr} {c : Nat} {ps : List (Int × Int)} {w : World} {lab rk : List Int} (h : PairsAt w (.slice a ps.length c) ps) (hok : GOk (N : Int) ps) (hpl : ps.length ≤ 2000) (hs : GSpec N ps lab rk) :
    Calls Try.prog 12 #[.agg #[.int .i64 (N : Int), .slice a ps.length c]] w fun e w' => ∃ u, e = .returned u ∧ isL N lab u w' ∧ Below w.heap.size w w' := by
  have hgr := bgrow w (.cells #[.int .i64 (N : Int), .slice a ps.length c] 27)
  have H1 := hidIt (h.below hgr)
  have HB := hidIt hgr
  have HX := hidIt (heap_alloc_new w (.cells #[.int .i64 (N : Int), .slice a ps.length c] 27))
  have HS := hidIt hs
  clear h hgr hs
  go_enter Try.func12, Try.ntmps12
  go_upto_region 1 with (fail)
  generalize (w.alloc (.cells #[.int .i64 (N : Int), .slice a ps.length c] 27)) = w1 at *
  obtain ⟨x0, x1⟩ := And.intro (cell_two0 HX.out) (cell_two1 HX.out)
  have lx := lt_of_block HX.out
  go_wp2_with fail
  refine (rdBuild_any N a c ps w1 H1.out hok hpl).mono ?_
  rintro e w2 ⟨la, lc, ra, rc, lab', rk', rfl, hl, hr, hs2, hb⟩
  obtain ⟨rfl, rfl⟩ := HS.out.uniq hok.ix hs2
  have HL := hidIt hl
  have HB2 := hidIt (HB.out.trans (Below.mono hb HB.out.size))
  clear hl hr hs2 hb
  go_wp2_with fail
  go_ret
  exact ⟨_, rfl, ⟨la, lc, rfl, HL.out⟩, HB2.out⟩
set_option maxRecDepth 100000 in
set_option maxHeartbeats 1000000 in
theorem rdRanks_rel {N : Nat} {a : Option Addr} {c : Nat} {ps : List (Int × Int)} {w : World} {lab rk : List Int} (h : PairsAt w (.slice a ps.length c) ps) (hok : GOk (N : Int) ps) (hpl : ps.length ≤ 2000) (hs : GSpec N ps lab rk) :
    Calls Try.prog 14 #[.agg #[.int .i64 (N : Int), .slice a ps.length c]] w fun e w' => ∃ u, e = .returned u ∧ isL N rk u w' ∧ Below w.heap.size w w' := by
  have hgr := bgrow w (.cells #[.int .i64 (N : Int), .slice a ps.length c] 27)
  have H1 := hidIt (h.below hgr)
  have HB := hidIt hgr
  have HX := hidIt (heap_alloc_new w (.cells #[.int .i64 (N : Int), .slice a ps.length c] 27))
  have HS := hidIt hs
  clear h hgr hs
  go_enter Try.func14, Try.ntmps14
  go_upto_region 1 with (fail)
  generalize (w.alloc (.cells #[.int .i64 (N : Int), .slice a ps.length c] 27)) = w1 at *
  obtain ⟨x0, x1⟩ := And.intro (cell_two0 HX.out) (cell_two1 HX.out)
  have lx := lt_of_block HX.out
  go_wp2_with fail
  refine (rdBuild_any N a c ps w1 H1.out hok hpl).mono ?_
  rintro e w2 ⟨la, lc, ra, rc, lab', rk', rfl, hl, hr, hs2, hb⟩
  obtain ⟨rfl, rfl⟩ := HS.out.uniq hok.ix hs2
  have HL := hidIt hr
  have HB2 := hidIt (HB.out.trans (Below.mono hb HB.out.size))
  clear hl hr hs2 hb
  go_wp2_with fail
  go_ret
  exact ⟨_, rfl, ⟨ra, rc, rfl, HL.out⟩, HB2.out⟩

theorem isR12.il {N : Nat} {zs : List Int} {u : Value} {w : World} (h : isR12 N zs u w) (hl : zs.length = N) (hN : N ≤ 1000) : IL w u zs := by
  obtain ⟨L, rfl, hi⟩ := h
  exact hi.ilN hl hN
theorem isL.il12 {N : Nat} {zs : List Int} {u : Value} {w : World} (h : isL N zs u w) : IL w u zs := by
  obtain ⟨a, c, rfl, hi⟩ := h
  exact hi
theorem cell_atM {w : World} {b k : Nat} {cs : Array Value} {t : TypeId} {u : Value} (h : w.heap[b]? = some (.cells cs t (0, 0))) (hk : cs[k]? = some u) : w.cell? ⟨b, k, none⟩ = some u := by
  simp only [World.cell?, h]
  exact hk
/-- A graph stays while a reader turns and others are made. -/
theorem OwnPairs.rd {w w' : World} {B b : Nat} {v : Value} {ps : List (Int × Int)} (h : OwnPairs w B v ps) (hb : b < B) (hg : w.grownBy w' (some b)) : OwnPairs w' B v ps :=
  h.kept hg fun g e x cap hv => by
    injection e with e
    rcases h with ⟨h, -⟩ | ⟨b', cap', h, -, -, h4, -⟩
    · rw [h] at hv; cases hv
    · rw [h] at hv
      injection hv with hv
      injection hv with hv
      injection hv with hv
      omega

set_option maxRecDepth 100000 in
set_option maxHeartbeats 2000000 in
theorem labels_walk (lv : Value) (zs : List Int) (w : World) (hz : IntsAt w w.heap.size lv zs) :
    Calls Try.prog 3 #[lv] w fun e w' => e = .returned (.bool true) ∧ Below w.heap.size w w' := by
  have HZ := hidIt hz
  clear hz
  go_enter Try.func3, Try.ntmps3
  go_wp2_with fail
  refine (new_any lv zs w.heap.size w HZ.out (Nat.le_refl _)).mono ?_
  rintro e w1 ⟨zs', rfl, hs1, o1, rfl⟩
  have HS1 := hidIt hs1
  have HB1 := hidIt (bgrow w o1)
  have hsz1 : w.heap.size < (w.alloc o1).heap.size := hs1.lt
  clear hs1
  generalize w.alloc o1 = w1 at *
  obtain ⟨b0, hb0⟩ : ∃ b0, b0 = w.heap.size := ⟨_, rfl⟩
  have Hb0 := hidIt hb0
  rw [← hb0] at HS1 hsz1 ⊢
  clear hb0
  go_wp2_with fail
  refine (kGraph2_any 6 (by decide) _ _ _ _ w1 HS1.out).mono ?_
  rintro e w2 ⟨N1, ps1, ga1, gc1, k1, rfl, hN1, hok1, hpl1, hop1, hs2, hg2⟩
  have HS2 := hidIt hs2
  have HB2 := hidIt (below_read HB1.out (by rw [← Hb0.out]; exact hg2) (by rw [← Hb0.out]; exact Nat.le_of_lt hsz1))
  have HO1 := hidIt hop1
  have HK1 := hidIt hok1
  have HP1 := hidIt hpl1
  have hsz2 : b0 < w2.heap.size := hs2.lt
  clear hs2 hg2 hop1 hok1 hpl1 HS1 HB1
  go_wp2_with fail
  refine (kGraph2_any 12 (by decide) _ _ _ _ w2 HS2.out).mono ?_
  rintro e w3 ⟨N2, ps2, ga2, gc2, k2, rfl, hN2, hok2, hpl2, hop2, hs3, hg3⟩
  have HS3 := hidIt hs3
  have HB3 := hidIt (below_read HB2.out (by rw [← Hb0.out]; exact hg3) HB2.out.size)
  have HO13 := hidIt (HO1.out.rd hsz1 hg3)
  have HO2 := hidIt hop2
  have HK2 := hidIt hok2
  have HP2 := hidIt hpl2
  have hsz3 : b0 < w3.heap.size := hs3.lt
  clear hs3 hg3 hop2 hok2 hpl2 HS2 HB2 HO1
  go_wp2_with fail
  refine (kGraph2_any 40 (by decide) _ _ _ _ w3 HS3.out).mono ?_
  rintro e w4 ⟨N3, ps3, ga3, gc3, k3, rfl, hN3, hok3, hpl3, hop3, hs4, hg4⟩
  have HB4 := hidIt (below_read HB3.out (by rw [← Hb0.out]; exact hg4) HB3.out.size)
  have HO14 := hidIt (HO13.out.rd hsz1 hg4)
  have HO24 := hidIt (HO2.out.rd hsz2 hg4)
  have HO3 := hidIt hop3
  have HK3 := hidIt hok3
  have HP3 := hidIt hpl3
  clear hs4 hg4 hop3 hok3 hpl3 HS3 HB3 HO13 HO2
  have hgr := bgrow w4 (.cells #[.int .i64 (N1 : Int), .slice ga1 ps1.length gc1, .int .i64 (N2 : Int), .slice ga2 ps2.length gc2, .int .i64 (N3 : Int), .slice ga3 ps3.length gc3] 27)
  have HT := hidIt (heap_alloc_new w4 (.cells #[.int .i64 (N1 : Int), .slice ga1 ps1.length gc1, .int .i64 (N2 : Int), .slice ga2 ps2.length gc2, .int .i64 (N3 : Int), .slice ga3 ps3.length gc3] 27))
  have HALL : Hid (∀ k, k < 3 → ∃ (N : Nat) (ga : Option Addr) (gc : Nat) (ps : List (Int × Int)), (w4.alloc (.cells #[.int .i64 (N1 : Int), .slice ga1 ps1.length gc1, .int .i64 (N2 : Int), .slice ga2 ps2.length gc2, .int .i64 (N3 : Int), .slice ga3 ps3.length gc3] 27)).cell? ⟨w4.heap.size, k * 2, none⟩ = some (.int .i64 (N : Int)) ∧ (w4.alloc (.cells #[.int .i64 (N1 : Int), .slice ga1 ps1.length gc1, .int .i64 (N2 : Int), .slice ga2 ps2.length gc2, .int .i64 (N3 : Int), .slice ga3 ps3.length gc3] 27)).cell? ⟨w4.heap.size, k * 2 + 1, none⟩ = some (.slice ga ps.length gc) ∧ GOk (N : Int) ps ∧ ps.length ≤ 2000 ∧ N ≤ 40 ∧ PairsAt (w4.alloc (.cells #[.int .i64 (N1 : Int), .slice ga1 ps1.length gc1, .int .i64 (N2 : Int), .slice ga2 ps2.length gc2, .int .i64 (N3 : Int), .slice ga3 ps3.length gc3] 27)) (.slice ga ps.length gc) ps) := by
    intro k hk
    match k, hk with
    | 0, _ => exact ⟨N1, ga1, gc1, ps1, cell_atM HT.out rfl, cell_atM HT.out rfl, HK1.out, HP1.out, by omega, (HO14.out.below hgr).lits⟩
    | 1, _ => exact ⟨N2, ga2, gc2, ps2, cell_atM HT.out rfl, cell_atM HT.out rfl, HK2.out, HP2.out, by omega, (HO24.out.below hgr).lits⟩
    | 2, _ => exact ⟨N3, ga3, gc3, ps3, cell_atM HT.out rfl, cell_atM HT.out rfl, HK3.out, HP3.out, by omega, (HO3.out.below hgr).lits⟩
  have HB5 := hidIt (HB4.out.trans (Below.mono hgr HB4.out.size))
  have hTlt := lt_of_block HT.out
  clear hgr HT HO14 HO24 HO3 HK1 HK2 HK3 HP1 HP2 HP3 HB4
  go_wp2_with fail
  generalize (w4.alloc (.cells #[.int .i64 (N1 : Int), .slice ga1 ps1.length gc1, .int .i64 (N2 : Int), .slice ga2 ps2.length gc2, .int .i64 (N3 : Int), .slice ga3 ps3.length gc3] 27)) = w5 at *
  generalize w4.heap.size = T at *
  go_loopw [5, 16] (fun _ v16 wr => ∃ k : Nat, k ≤ 3 ∧ v16 = .int .i64 k ∧ Hid (Below w5.heap.size w5 wr)) (fun _ v16 _ => 3 - (intOf v16).toNat)
  case atStart => exact ⟨0, by decide, (by first | rfl | trivial), Below.refl _ _⟩
  case round =>
    obtain ⟨k, hk, rfl, HB⟩ := hrel
    have hk0 : (0 : Int) ≤ (k : Int) := by omega
    by_cases hlt : k < 3
    · have hkI : (k : Int) < 3 := by omega
      obtain ⟨N, ga, gc, ps, q0, q1, hok, hpl, hN, hpa⟩ := HALL.out k hlt
      have p0 := (Below.cell (p := ⟨T, k * 2, none⟩) HB.out hTlt).trans q0
      have p1 := (Below.cell (p := ⟨T, k * 2 + 1, none⟩) HB.out hTlt).trans q1
      have lt2 := Nat.lt_of_lt_of_le hTlt HB.out.size
      have HOK := hidIt hok
      have hgr := bgrow wr (.cells #[.int .i64 (N : Int), .slice ga ps.length gc] 27)
      have HX := hidIt (heap_alloc_new wr (.cells #[.int .i64 (N : Int), .slice ga ps.length gc] 27))
      have HO := hidIt ((hpa.below HB.out).below hgr)
      have HB6 := hidIt (HB.out.trans (Below.mono hgr HB.out.size))
      obtain ⟨lab, rk, hsp⟩ := gspec_ex hok
      have HSP := hidIt hsp
      have HLL := hidIt hsp.ll
      have HRL := hidIt hsp.rl
      clear q0 q1 hok hpa hgr hsp HB
      go_upto_region 5 with (fail)
      clear p0 p1 lt2
      generalize (wr.alloc (.cells #[.int .i64 (N : Int), .slice ga ps.length gc] 27)) = w6 at *
      generalize wr.heap.size = G at *
      obtain ⟨x0, x1⟩ := And.intro (cell_two0 HX.out) (cell_two1 HX.out)
      have lx := lt_of_block HX.out
      have X0 : ∀ wx, Ext w6 wx → wx.cell? ⟨G, 0, none⟩ = some (.int .i64 (N : Int)) := fun wx hC => ext_cell x0 lx hC
      have X1 : ∀ wx, Ext w6 wx → wx.cell? ⟨G, 1, none⟩ = some (.slice ga ps.length gc) := fun wx hC => ext_cell x1 lx hC
      have C1 : Hid (∀ wx, Ext w6 wx → Calls Try.prog 11 #[.agg #[.int .i64 (N : Int), .slice ga ps.length gc]] wx fun e w'' => ∃ u, e = .returned u ∧ Ext w6 w'' ∧ Grows wx w'' ∧ isR12 N lab u w'') := fun wx hC => rel_call hC (uLabel_rel (HO.out.below hC) HOK.out hpl HSP.out)
      have C2 : Hid (∀ wx, Ext w6 wx → Calls Try.prog 12 #[.agg #[.int .i64 (N : Int), .slice ga ps.length gc]] wx fun e w'' => ∃ u, e = .returned u ∧ Ext w6 w'' ∧ Grows wx w'' ∧ isL N lab u w'') := fun wx hC => rel_call hC (rdLabel_rel (HO.out.below hC) HOK.out hpl HSP.out)
      have C3 : Hid (∀ wx, Ext w6 wx → Calls Try.prog 13 #[.agg #[.int .i64 (N : Int), .slice ga ps.length gc]] wx fun e w'' => ∃ u, e = .returned u ∧ Ext w6 w'' ∧ Grows wx w'' ∧ isR12 N rk u w'') := fun wx hC => rel_call hC (uRanks_rel (HO.out.below hC) HOK.out hpl HSP.out)
      have C4 : Hid (∀ wx, Ext w6 wx → Calls Try.prog 14 #[.agg #[.int .i64 (N : Int), .slice ga ps.length gc]] wx fun e w'' => ∃ u, e = .returned u ∧ Ext w6 w'' ∧ Grows wx w'' ∧ isL N rk u w'') := fun wx hC => rel_call hC (rdRanks_rel (HO.out.below hC) HOK.out hpl HSP.out)
      have CK : Hid (∀ wx u v xs, xs.length = N → Ext w6 wx → isR12 N xs u wx → isL N xs v wx → Calls Try.prog 10 #[u, v] wx fun e w'' => ∃ u, e = .returned u ∧ Ext w6 w'' ∧ Grows wx w'' ∧ isB true u w'') := fun wx u v xs hx hC h1 h2 => rel_call hC ((kInts_any u v xs xs wx (h1.il hx (by omega)) h2.il12 (by omega) (by omega)).mono fun e w'' ⟨k1, k2⟩ => ⟨_, k1, by rw [decide_eq_true rfl]; rfl, k2⟩)
      haveI := Ext.nonempty w6
      refine wp_region_rel (Ext w6) Grows (relTab [(21, isR12 N lab), (23, isL N lab), (24, isB true), (28, isR12 N rk), (30, isL N rk), (31, isB true)]) (by kernel_rfl) (by kernel_rfl) (by kernel_rfl) (stable_cons (isR12_up _ _) (stable_cons (isL_up _ _) (stable_cons (isB_up _) (stable_cons (isR12_up _ _) (stable_cons (isL_up _ _) (stable_cons (isB_up _) (stable_nil _))))))) (Ext.start w6) ?_
      repeat (
        refine' walkR_plain (by kernel_rfl) rfl rfl (fun wx hC hL => ?_) ?_
        rotate_left
        · (have hlx := Nat.lt_of_lt_of_le lx (Below.size hC)
           simp only [X0 wx hC, X1 wx hC, hlx, go_sem]; first | done | (go_simp; exact ⟨rfl, rfl⟩))
        simp only [Act.put, List.setIfInBounds_toArray, List.set_cons_zero, List.set_cons_succ])
      refine walkR_rel (by kernel_rfl) rfl rfl (of_decide_eq_true (by kernel_rfl)) (fun wx hC hL => ?_) (fun v hv => ?_)
      · go_simp
        exact C1.out wx hC
      obtain ⟨_, _, L1, rfl, -⟩ := hv
      simp only [Act.put, List.setIfInBounds_toArray, List.set_cons_zero, List.set_cons_succ]
      repeat (
        refine' walkR_plain (by kernel_rfl) rfl rfl (fun wx hC hL => ?_) ?_
        rotate_left
        · (have hlx := Nat.lt_of_lt_of_le lx (Below.size hC)
           simp only [X0 wx hC, X1 wx hC, hlx, go_sem]; first | done | (go_simp; exact ⟨rfl, rfl⟩))
        simp only [Act.put, List.setIfInBounds_toArray, List.set_cons_zero, List.set_cons_succ])
      refine walkR_rel (by kernel_rfl) rfl rfl (of_decide_eq_true (by kernel_rfl)) (fun wx hC hL => ?_) (fun v hv => ?_)
      · go_simp
        exact C2.out wx hC
      obtain ⟨_, _, a2, c2, rfl, -⟩ := hv
      simp only [Act.put, List.setIfInBounds_toArray, List.set_cons_zero, List.set_cons_succ]
      repeat (
        refine' walkR_plain (by kernel_rfl) rfl rfl (fun wx hC hL => ?_) ?_
        rotate_left
        · (have hlx := Nat.lt_of_lt_of_le lx (Below.size hC)
           simp only [X0 wx hC, X1 wx hC, hlx, go_sem]; first | done | (go_simp; exact ⟨rfl, rfl⟩))
        simp only [Act.put, List.setIfInBounds_toArray, List.set_cons_zero, List.set_cons_succ])
      refine walkR_rel (by kernel_rfl) rfl rfl (of_decide_eq_true (by kernel_rfl)) (fun wx hC hL => ?_) (fun v hv => ?_)
      · have h21 : isR12 N lab (.slice (some ⟨L1, 0, none⟩) N N) wx := hL.get 21 (by simp [more]) (by kernel_rfl) rfl rfl
        have h23 : isL N lab (.slice a2 N c2) wx := hL.get 23 (by simp [more]) (by kernel_rfl) rfl rfl
        go_simp
        exact CK.out wx _ _ lab HLL.out hC h21 h23
      obtain ⟨_, _, rfl⟩ := hv
      simp only [Act.put, List.setIfInBounds_toArray, List.set_cons_zero, List.set_cons_succ]
      repeat (
        refine' walkR_plain (by kernel_rfl) rfl rfl (fun wx hC hL => ?_) ?_
        rotate_left
        · (have hlx := Nat.lt_of_lt_of_le lx (Below.size hC)
           simp only [X0 wx hC, X1 wx hC, hlx, go_sem]; first | done | (go_simp; exact ⟨rfl, rfl⟩))
        simp only [Act.put, List.setIfInBounds_toArray, List.set_cons_zero, List.set_cons_succ])
      refine walkR_rel (by kernel_rfl) rfl rfl (of_decide_eq_true (by kernel_rfl)) (fun wx hC hL => ?_) (fun v hv => ?_)
      · go_simp
        exact C3.out wx hC
      obtain ⟨_, _, L3, rfl, -⟩ := hv
      simp only [Act.put, List.setIfInBounds_toArray, List.set_cons_zero, List.set_cons_succ]
      repeat (
        refine' walkR_plain (by kernel_rfl) rfl rfl (fun wx hC hL => ?_) ?_
        rotate_left
        · (have hlx := Nat.lt_of_lt_of_le lx (Below.size hC)
           simp only [X0 wx hC, X1 wx hC, hlx, go_sem]; first | done | (go_simp; exact ⟨rfl, rfl⟩))
        simp only [Act.put, List.setIfInBounds_toArray, List.set_cons_zero, List.set_cons_succ])
      refine walkR_rel (by kernel_rfl) rfl rfl (of_decide_eq_true (by kernel_rfl)) (fun wx hC hL => ?_) (fun v hv => ?_)
      · go_simp
        exact C4.out wx hC
      obtain ⟨_, _, a4, c4, rfl, -⟩ := hv
      simp only [Act.put, List.setIfInBounds_toArray, List.set_cons_zero, List.set_cons_succ]
      repeat (
        refine' walkR_plain (by kernel_rfl) rfl rfl (fun wx hC hL => ?_) ?_
        rotate_left
        · (have hlx := Nat.lt_of_lt_of_le lx (Below.size hC)
           simp only [X0 wx hC, X1 wx hC, hlx, go_sem]; first | done | (go_simp; exact ⟨rfl, rfl⟩))
        simp only [Act.put, List.setIfInBounds_toArray, List.set_cons_zero, List.set_cons_succ])
      refine walkR_rel (by kernel_rfl) rfl rfl (of_decide_eq_true (by kernel_rfl)) (fun wx hC hL => ?_) (fun v hv => ?_)
      · have h28 : isR12 N rk (.slice (some ⟨L3, 0, none⟩) N N) wx := hL.get 28 (by simp [more]) (by kernel_rfl) rfl rfl
        have h30 : isL N rk (.slice a4 N c4) wx := hL.get 30 (by simp [more]) (by kernel_rfl) rfl rfl
        go_simp
        exact CK.out wx _ _ rk HRL.out hC h28 h30
      obtain ⟨_, _, rfl⟩ := hv
      simp only [Act.put, List.setIfInBounds_toArray, List.set_cons_zero, List.set_cons_succ]
      repeat (
        refine' walkR_plain (by kernel_rfl) rfl rfl (fun wx hC hL => ?_) ?_
        rotate_left
        · (have hlx := Nat.lt_of_lt_of_le lx (Below.size hC)
           simp only [X0 wx hC, X1 wx hC, hlx, go_sem]; first | done | (go_simp; exact ⟨rfl, rfl⟩))
        simp only [Act.put, List.setIfInBounds_toArray, List.set_cons_zero, List.set_cons_succ])
      refine fun w7 hE7 _ => ?_
      have HB7 : Hid (Below w5.heap.size w5 w7) := HB6.out.trans (Below.mono hE7 HB6.out.size)
      clear hE7 X0 X1 C1 C2 C3 C4 CK x0 x1 lx
      go_wp2_with fail
      go_roundw
      case rel => exact ⟨k + 1, by omega, by go_num, HB7.out⟩
      case measure => simp [intOf]; omega
    · obtain rfl : k = 3 := by omega
      have hkI : ¬ ((3 : Nat) : Int) < 3 := by decide
      go_wp2_with fail
      refine (awake12_any _).mono ?_
      rintro e w30 ⟨rfl, hb⟩
      have HBF := hidIt ((HB5.out.trans (Below.mono HB.out HB5.out.size)).trans (Below.mono hb (Nat.le_trans HB5.out.size HB.out.size)))
      clear hb
      go_wp2_with fail
      go_ret
      exact ⟨rfl, HBF.out⟩
end Go.Proofs.Ytghnojmaciljoaa
