/- Induced, for every graph and list of nodes. -/
import Derived.Test.YtcelijjohcfhkaaDoorG0M
import Derived.Test.YtcelijjohcfhkaaDoorG0R
import Derived.Test.YtcelijjohcfhkaaDoorG0U
namespace Go.Proofs.YtcelijjohcfhkaaDoor
set_option linter.unusedVariables false
set_option linter.unusedSimpArgs false
open Go Go.RowKit Go.Sort

/-- The attacks between kept nodes, renumbered. -/
def partL (S : BitVec 64) (ps : List (Int × Int)) : List (Int × Int) := (ps.filter fun p => S.getLsbD p.1.toNat && S.getLsbD p.2.toNat).map fun p => ((renum S p.1.toNat : Int), (renum S p.2.toNat : Int))
theorem partL_step {S : BitVec 64} {ps : List (Int × Int)} {k : Nat} (h : k < ps.length) : partL S (ps.take (k + 1)) = partL S (ps.take k) ++ if (S.getLsbD ps[k].1.toNat && S.getLsbD ps[k].2.toNat) = true then [((renum S ps[k].1.toNat : Int), (renum S ps[k].2.toNat : Int))] else [] := by
  unfold partL
  rw [List.take_succ_eq_append_getElem h, List.filter_append, List.map_append]
  cases hb : (S.getLsbD ps[k].1.toNat && S.getLsbD ps[k].2.toNat) <;> simp [hb]
theorem partL_len (S : BitVec 64) (ps : List (Int × Int)) : (partL S ps).length ≤ ps.length := by
  unfold partL
  rw [List.length_map]
  exact List.length_filter_le _ _
/-- Induced's graph. -/
def indN (m : Int) (zs : List Int) : Int := ((members (keptB m zs)).length : Int)
def indL (m : Int) (ps : List (Int × Int)) (zs : List Int) : List (Int × Int) := partL (keptB m zs) ps


set_option maxRecDepth 100000 in
set_option maxHeartbeats 8000000 in
theorem gInduced_any (n : Int) (v nv : Value) (xs : List (Int × Int)) (zs : List Int) (w : World) (h : PairsAt w v xs) (hl : xs.length ≤ 1000) (hz : IL w nv zs) (hzl : zs.length ≤ 1000) :
    Calls Tryd.prog 13 #[.agg #[.int .i64 n, v], nv] w fun e w' => ∃ v', e = .returned (.agg #[.int .i64 (indN (vN n xs) zs), v']) ∧ OwnPairs w' w.heap.size v' (indL (vN n xs) (vL n xs) zs) ∧ Below w.heap.size w w' := by
  obtain ⟨⟨hX, hZ⟩, hB⟩ := two_boxes w (.cells #[.int .i64 n, v] 24) (.cells #[.int .i64 0, .slice none 0 0] 24)
  have h1 := h.below hB
  have HV := hidIt (h.valid n)
  obtain ⟨a, c, rfl, -⟩ := h.form
  obtain ⟨na, nc, rfl, hic⟩ := hz.ic
  have HIC := hidIt hic
  have HX := hidIt hX
  have HZ := hidIt hZ
  have HB := hidIt hB
  have H1 := hidIt h1
  have HL := hidIt hl
  have HOK := hidIt (v_ok n xs)
  have hsz : (w.alloc (.cells #[.int .i64 n, .slice a xs.length c] 24)).heap.size = w.heap.size + 1 := by simp
  obtain ⟨Z, hZZ⟩ : ∃ Z, Z = zs.length := ⟨_, rfl⟩
  have HZL := hidIt hZZ
  rw [← hZZ] at hzl ⊢
  clear hX hZ hB h1 h hl hz hic hZZ
  go_enter Tryd.func13, Tryd.ntmps13
  go_upto_region 1 with (fail)
  generalize ((w.alloc (.cells #[.int .i64 n, .slice a xs.length c] 24)).alloc (.cells #[.int .i64 0, .slice none 0 0] 24)) = w1 at *
  clear hsz
  obtain ⟨x0, x1⟩ := And.intro (cell_two0 HX.out) (cell_two1 HX.out)
  have lx := lt_of_block HX.out
  go_wp2_with fail
  refine (gvalid_any n _ xs _ H1.out (by have := HL.out; omega)).mono ?_
  rintro e w2 ⟨rfl, hb⟩
  have HX2 := hidIt (blk_kept2 HX.out hb)
  have HZ2 := hidIt (blk_kept2 HZ.out hb)
  have HLN : Hid ((vL n xs).length ≤ 1000) := Nat.le_trans (vL_len n xs) HL.out
  have HB2 := hidIt (HB.out.trans (Below.mono hb HB.out.size))
  clear hb x0 x1 lx HX HZ H1 HL HB
  generalize hps : vL n xs = ps at *
  have HPS := hidIt hps
  clear hps
  generalize hm : vN n xs = m at *
  have HMM := hidIt hm
  clear hm
  generalize vV n xs _ = v' at *
  obtain ⟨a', c', rfl, hpc⟩ := HV.out.pc
  have HPC := hidIt hpc
  have HB3 := hidIt (below_set5 (i := 1) (u := .slice a' ps.length c') (below_set5 (i := 0) (u := .int .i64 m) HB2.out (Nat.le_refl _)) (Nat.le_refl _))
  have HX3 := hidIt (box_set2 (x := .int .i64 m) (y := .slice a' ps.length c') HX2.out)
  have HZ3 : Hid (((w2.setCell ⟨w.heap.size, 0, none⟩ (.int .i64 m)).setCell ⟨w.heap.size, 1, none⟩ (.slice a' ps.length c')).heap[w.heap.size + 1]? = some (.cells #[.int .i64 0, .slice none 0 0] 24 (0, 0))) := by
    show _ = _
    rw [Below.heap_setCell _ _ _ _ (by show w.heap.size + 1 ≠ w.heap.size; omega), Below.heap_setCell _ _ _ _ (by show w.heap.size + 1 ≠ w.heap.size; omega)]
    exact HZ2.out
  obtain ⟨x0, x1⟩ := And.intro (cell_two0 HX2.out) (cell_two1 HX2.out)
  have lx := lt_of_block HX2.out
  have f0 := free_any HX2.out 0
  have f1 := free_any HX2.out 1
  clear hpc
  go_upto_region 2 with (fail)
  generalize ((w2.setCell ⟨w.heap.size, 0, none⟩ (.int .i64 m)).setCell ⟨w.heap.size, 1, none⟩ (.slice a' ps.length c')) = w3 at *
  clear x0 x1 lx f0 f1 HX2 HB2 HZ2
  have hg3 := bgrow w3 (.cells #[.int .u64 0] 54)
  have HK4 : Hid ((w3.alloc (.cells #[.int .u64 0] 54)).heap[w3.heap.size]? = some (.cells #[bv (keptB m (zs.take 0))] 54 (0, 0))) := heap_alloc_new w3 (.cells #[.int .u64 0] 54)
  have HX4 := hidIt (blk_kept2 HX3.out hg3)
  have HZ4 := hidIt (blk_kept2 HZ3.out hg3)
  have HB4 := hidIt (HB3.out.trans (Below.mono hg3 HB3.out.size))
  have hKge : w.heap.size + 1 < w3.heap.size := lt_of_block HZ3.out
  clear hg3
  go_upto_region 3 with (fail)
  generalize (w3.alloc (.cells #[.int .u64 0] 54)) = w4 at *
  have hm40 := HOK.out.n40
  clear HX3 HZ3 HB3
  generalize w3.heap.size = K at *
  go_wp2_with fail
  go_loopw [7, 16] (fun _ vk wr => ∃ k : Nat, vk = .int .i64 k ∧ k ≤ Z ∧ Hid (wr.heap[w.heap.size]? = some (.cells #[.int .i64 m, .slice a' ps.length c'] 24 (0, 0))) ∧ Hid (wr.heap[w.heap.size + 1]? = some (.cells #[.int .i64 0, .slice none 0 0] 24 (0, 0))) ∧ Hid (wr.heap[K]? = some (.cells #[bv (keptB m (zs.take k))] 54 (0, 0))) ∧ Hid (Below w.heap.size w wr)) (fun _ vk _ => Z - (intOf vk).toNat)
  case atStart => exact ⟨0, (by first | rfl | trivial), Nat.zero_le _, HX4.out, HZ4.out, HK4.out, HB4.out⟩
  case round =>
    clear HX4 HZ4 HK4 HB4
    obtain ⟨k, rfl, hk, HX, HZ, HK, HB⟩ := hrel
    have hkI0 : (0 : Int) ≤ (k : Int) := by omega
    obtain ⟨x0, x1⟩ := And.intro (cell_two0 HX.out) (cell_two1 HX.out)
    have lx := lt_of_block HX.out
    by_cases hlt : k < Z
    · have hkI : (k : Int) < (Z : Int) := by omega
      have HLT : Hid (k < zs.length) := by show k < _; rw [← HZL.out]; exact hlt
      obtain ⟨b, off, rfl, lb, hcs⟩ := (HIC.out.go HB.out).at_ HLT.out
      have p0 := hcs k HLT.out
      have HST := hidIt (keptB_step (m := m) HLT.out)
      generalize zs[k]'HLT.out = z at p0 HST
      clear hcs
      cases hix : ixB z m
      · have HE : Hid (keptB m (zs.take (k + 1)) = keptB m (zs.take k)) := by show _ = _; rw [HST.out, hix]; rfl
        have HIX := hidIt hix
        clear hix
        go_wp2_with fail
        refine (gisNode_any m z _ ⟨_, _, _, rfl⟩ _).mono ?_
        rw [HIX.out]
        rintro e w5 ⟨rfl, hb⟩
        have HX5 := hidIt (blk_kept2 HX.out hb)
        have HZ5 := hidIt (blk_kept2 HZ.out hb)
        have HK5 := hidIt (blk_kept2 HK.out hb)
        have HB5 := hidIt (HB.out.trans (Below.mono hb HB.out.size))
        clear hb HX HZ HK HB x0 x1 lx
        go_wp2_with fail
        go_roundw
        case rel => exact ⟨k + 1, by go_num, by omega, HX5.out, HZ5.out, (by show _ = _; rw [HE.out]; exact HK5.out), HB5.out⟩
        case measure => simp [intOf]; omega
      · have HE : Hid (keptB m (zs.take (k + 1)) = keptB m (zs.take k) ||| oneB z.toNat) := by show _ = _; rw [HST.out, hix]; rfl
        obtain ⟨hz0, hz1⟩ := ixB_true hix
        have HIX := hidIt hix
        clear hix
        obtain ⟨y, rfl⟩ : ∃ y : Nat, z = (y : Int) := ⟨z.toNat, by omega⟩
        rw [Int.toNat_natCast] at HE
        go_wp2_with fail
        refine (gisNode_any m (y : Int) _ ⟨_, _, _, rfl⟩ _).mono ?_
        rw [HIX.out]
        rintro e w5 ⟨rfl, hb⟩
        have HX5 := hidIt (blk_kept2 HX.out hb)
        have HZ5 := hidIt (blk_kept2 HZ.out hb)
        have HK5 := hidIt (blk_kept2 HK.out hb)
        have HB5 := hidIt (HB.out.trans (Below.mono hb HB.out.size))
        clear hb HX HZ HK HB x0 x1 lx
        have hy64 : y < 64 := by omega
        have HOR := hidIt (or_one (keptB m (zs.take k)) hy64)
        have HK6 : Hid ((w5.setCell ⟨K, 0, none⟩ (bv (keptB m (zs.take k) ||| oneB y))).drew.heap[K]? = some (.cells #[bv (keptB m (zs.take (k + 1)))] 54 (0, 0))) := by
          show _ = _
          rw [HE.out]
          have := set_cells (i := 0) (u := bv (keptB m (zs.take k) ||| oneB y)) HK5.out
          exact this
        have HX6 : Hid ((w5.setCell ⟨K, 0, none⟩ (bv (keptB m (zs.take k) ||| oneB y))).drew.heap[w.heap.size]? = some (.cells #[.int .i64 m, .slice a' ps.length c'] 24 (0, 0))) := (Below.heap_setCell w5 ⟨K, 0, none⟩ _ w.heap.size (by show w.heap.size ≠ K; omega)).trans HX5.out
        have HZ6 : Hid ((w5.setCell ⟨K, 0, none⟩ (bv (keptB m (zs.take k) ||| oneB y))).drew.heap[w.heap.size + 1]? = some (.cells #[.int .i64 0, .slice none 0 0] 24 (0, 0))) := (Below.heap_setCell w5 ⟨K, 0, none⟩ _ (w.heap.size + 1) (by show w.heap.size + 1 ≠ K; omega)).trans HZ5.out
        have HB6 : Hid (Below w.heap.size w (w5.setCell ⟨K, 0, none⟩ (bv (keptB m (zs.take k) ||| oneB y))).drew) := by
          have h := below_set5 (b := K) (i := 0) (u := bv (keptB m (zs.take k) ||| oneB y)) HB5.out (by omega)
          exact ⟨h.os, h.tape, h.output, h.size, h.block⟩
        have kc := one_cell HK5.out
        have kf := free_any HK5.out 0
        have kl := lt_of_block HK5.out
        go_wp2_with fail
        go_big_region
        go_wp2_with fail
        rw [HOR.out]
        go_roundw
        case rel => exact ⟨k + 1, by go_num, by omega, HX6.out, HZ6.out, HK6.out, HB6.out⟩
        case measure => simp [intOf]; omega
    · have hkI : ¬ (k : Int) < (Z : Int) := by omega
      have HE : Hid (zs.take k = zs) := List.take_of_length_le (by rw [← HZL.out]; omega)
      rw [HE.out] at HK
      have HS : Hid (indN m zs = ((members (keptB m zs)).length : Int) ∧ indL m ps zs = partL (keptB m zs) ps) := ⟨rfl, rfl⟩
      generalize keptB m zs = S at *
      have kc := one_cell HK.out
      have kl := lt_of_block HK.out
      go_wp2_with fail
      refine (count_any S _).mono ?_
      rintro e w5 ⟨rfl, rfl⟩
      generalize ((members S).length : Int) = CN at *
      have hg5 := bgrow w5 (.cells #[.int .i64 CN, .slice none 0 0] 24)
      have HX6 := hidIt (blk_kept2 HX.out hg5)
      have HK6 := hidIt (blk_kept2 HK.out hg5)
      have HG6 : Hid (GR w (w.heap.size + 1) w5.heap.size CN (w5.alloc (.cells #[.int .i64 CN, .slice none 0 0] 24)) (.slice none 0 0) []) :=
        ⟨Nat.le_succ _, lt_of_block HZ.out, blk_kept2 HZ.out hg5, heap_alloc_new w5 _, OwnP.nil _ _, HB.out.trans (Below.mono hg5 HB.out.size)⟩
      have hKQ : K < w5.heap.size := kl
      clear hg5
      go_upto_region 11 with (fail)
      generalize (w5.alloc (.cells #[.int .i64 CN, .slice none 0 0] 24)) = w6 at *
      clear kc kl x0 x1 lx HX HZ HK HB
      generalize w5.heap.size = Q at *
      obtain ⟨x0, x1⟩ := And.intro (cell_two0 HX6.out) (cell_two1 HX6.out)
      have lx := lt_of_block HX6.out
      obtain ⟨M, hM⟩ : ∃ M, M = ps.length := ⟨_, rfl⟩
      have HM := hidIt hM
      rw [← hM] at HLN x1 HX6
      clear hM
      have hMn := HLN.out
      go_wp2_with fail
      go_loopw [11, 35] (fun _ vk wr => ∃ (k : Nat) (qs : List (Int × Int)) (za : Option Addr) (zc : Nat), vk = .int .i64 k ∧ k ≤ M ∧ Hid (qs = partL S (ps.take k)) ∧ Hid (wr.heap[K]? = some (.cells #[bv S] 54 (0, 0))) ∧ Hid (GR w (w.heap.size + 1) Q CN wr (.slice za qs.length zc) qs)) (fun _ vk _ => M - (intOf vk).toNat)
      case atStart => exact ⟨0, [], none, 0, (by first | rfl | trivial), Nat.zero_le _, (rfl : _ = _), HK6.out, HG6.out⟩
      case round =>
        clear HG6 HK6 x0 x1 lx HX6
        obtain ⟨k, qs, za, zc, rfl, hk, HQ, HK, HG⟩ := hrel
        have hkI0 : (0 : Int) ≤ (k : Int) := by omega
        by_cases hlt : k < M
        · have hkI : (k : Int) < (M : Int) := by omega
          have HLT : Hid (k < ps.length) := by show k < _; rw [← HM.out]; exact hlt
          obtain ⟨b, off, rfl, lb, hcs⟩ := (HPC.out.go HG.out.bel).at_ HLT.out
          obtain ⟨p0, p1⟩ := hcs k HLT.out
          have hmem := HOK.out.ix (ps[k]'HLT.out) (List.getElem_mem _)
          have HST := hidIt (partL_step (S := S) HLT.out)
          generalize ps[k]'HLT.out = x at p0 p1 hmem HST
          clear hcs
          obtain ⟨gx, sx⟩ := x
          simp only at p0 p1 hmem HST
          obtain ⟨⟨g0, g1⟩, s0, s1⟩ := hmem
          obtain ⟨f, rfl⟩ : ∃ f : Nat, gx = (f : Int) := ⟨gx.toNat, by omega⟩
          obtain ⟨t, rfl⟩ : ∃ t : Nat, sx = (t : Int) := ⟨sx.toNat, by omega⟩
          rw [Int.toNat_natCast, Int.toNat_natCast] at HST
          have hf : f < 64 := by omega
          have ht : t < 64 := by omega
          have hql : qs.length ≤ 1000 := by
            have h1 := congrArg List.length HQ.out
            have h2 := partL_len S (ps.take k)
            rw [List.length_take] at h2
            omega
          have hg2 := bgrow wr (.cells #[.int .i64 (f : Int), .int .i64 (t : Int)] 43)
          have HP5 := hidIt (heap_alloc_new wr (.cells #[.int .i64 (f : Int), .int .i64 (t : Int)] 43))
          have HG5 := hidIt (HG.out.go hg2)
          have HK5 := hidIt (blk_kept2 HK.out hg2)
          clear hg2 HG HK
          go_upto_region 14 with (fail)
          generalize wr.alloc (.cells #[.int .i64 (f : Int), .int .i64 (t : Int)] 43) = w7 at *
          clear p0 p1 lb
          generalize wr.heap.size = R at *
          obtain ⟨y0, y1⟩ := And.intro (cell_two0 HP5.out) (cell_two1 HP5.out)
          have ly := lt_of_block HP5.out
          have kc := one_cell HK5.out
          have kl := lt_of_block HK5.out
          cases h1 : S.getLsbD f
          · have HE : Hid (qs = partL S (ps.take (k + 1))) := by show _ = _; rw [HST.out, h1, ← HQ.out]; simp
            have HH1 := hidIt h1
            clear h1
            go_wp2_with fail
            refine (ghas_any S f hf _).mono ?_
            rw [HH1.out]
            rintro e w8 ⟨rfl, rfl⟩
            go_wp2_with fail
            go_roundw
            case rel => exact ⟨k + 1, qs, za, zc, by go_num, by omega, HE.out, HK5.out, HG5.out⟩
            case measure => simp [intOf]; omega
          cases h2 : S.getLsbD t
          · have HE : Hid (qs = partL S (ps.take (k + 1))) := by show _ = _; rw [HST.out, h1, h2, ← HQ.out]; simp
            have HH1 := hidIt h1
            have HH2 := hidIt h2
            clear h1 h2
            go_wp2_with fail
            refine (ghas_any S f hf _).mono ?_
            rw [HH1.out]
            rintro e w8 ⟨rfl, rfl⟩
            go_wp2_with fail
            refine (ghas_any S t ht _).mono ?_
            rw [HH2.out]
            rintro e w9 ⟨rfl, rfl⟩
            go_wp2_with fail
            go_roundw
            case rel => exact ⟨k + 1, qs, za, zc, by go_num, by omega, HE.out, HK5.out, HG5.out⟩
            case measure => simp [intOf]; omega
          have HE : Hid (qs ++ [((renum S f : Int), (renum S t : Int))] = partL S (ps.take (k + 1))) := by show _ = _; rw [HST.out, h1, h2, ← HQ.out]; simp
          have HH1 := hidIt h1
          have HH2 := hidIt h2
          clear h1 h2
          go_wp2_with fail
          refine (ghas_any S f hf _).mono ?_
          rw [HH1.out]
          rintro e w8 ⟨rfl, rfl⟩
          go_wp2_with fail
          refine (ghas_any S t ht _).mono ?_
          rw [HH2.out]
          rintro e w9 ⟨rfl, rfl⟩
          go_wp2_with fail
          obtain ⟨z0, z1⟩ := And.intro (cell_two0 HG5.out.box) (cell_two1 HG5.out.box)
          have lz := lt_of_block HG5.out.box
          have Z1 : ∀ wx, Ext w9 wx → wx.cell? ⟨Q, 1, none⟩ = some (.slice za qs.length zc) := fun wx hC => ext_cell z1 lz hC
          have Y0 : ∀ wx, Ext w9 wx → wx.cell? ⟨R, 0, none⟩ = some (.int .i64 (f : Int)) := fun wx hC => ext_cell y0 ly hC
          have Y1 : ∀ wx, Ext w9 wx → wx.cell? ⟨R, 1, none⟩ = some (.int .i64 (t : Int)) := fun wx hC => ext_cell y1 ly hC
          have HCF : Hid (∀ i : Nat, i < 64 → ∀ wx, Ext w9 wx → Calls Tryd.prog 32 #[.int .i64 (i : Int), .pointer (some ⟨K, 0, none⟩)] wx fun e w'' => ∃ u, e = .returned u ∧ Ext w9 w'' ∧ Grows wx w'' ∧ Own.relR (Own.rA (Own.isVal (.int .i64 (renum S i : Int)))) wx u w'') := fun i hi wx hC => Own.callA hC ((renum_any S i hi K wx (ext_cell kc kl hC) (Nat.lt_of_lt_of_le kl (Below.size hC))).mono fun e w'' ⟨he, q, hq⟩ => ⟨_, he, rfl, by rw [hq]; exact ⟨rfl, rfl, rfl, Nat.le_refl _, fun _ _ => rfl⟩⟩)
          haveI : Nonempty (In (Ext w9)) := Ext.nonempty w9
          refine Own.wp_region_tail 12 (Ext w9) Grows (Own.relTab [(54, Own.rA (Own.isVal (.int .i64 (renum S f : Int)))), (58, Own.rA (Own.isVal (.int .i64 (renum S t : Int)))), (60, Own.rA (Own.isBlk #[.int .i64 (renum S f : Int), .int .i64 (renum S t : Int)] 43))]) (by kernel_rfl) (by kernel_rfl) (by kernel_rfl) (by kernel_rfl) (by kernel_rfl) (by kernel_rfl) (Own.stableO_cons (Own.isVal_up _) (Own.stableO_cons (Own.isVal_up _) (Own.stableO_cons (Own.isBlk_up _ _) (Own.stableO_nil _)))) (Ext.start w9) ?_
          simp only [Own.idleTail]
          repeat (
            refine' Own.walkR_plain (by kernel_rfl) rfl rfl (fun wx hC hL => ?_) ?_
            rotate_left
            · (have hlw := Below.size hC
               have hlw1 := Nat.lt_of_lt_of_le lz hlw
               have hlw2 := Nat.lt_of_lt_of_le ly hlw
               simp only [Z1 wx hC, Y0 wx hC, Y1 wx hC, hlw1, hlw2, go_sem]; first | done | (go_simp; exact ⟨rfl, rfl⟩))
            simp only [Act.put, List.setIfInBounds_toArray, List.set_cons_zero, List.set_cons_succ])
          refine Own.walkR_rel (by kernel_rfl) rfl rfl (of_decide_eq_true (by kernel_rfl)) (fun wx hC hL => ?_) (fun v hv => ?_)
          · go_simp
            exact HCF.out f hf wx hC
          obtain ⟨_, _, rfl⟩ := hv
          simp only [Act.put, List.setIfInBounds_toArray, List.set_cons_zero, List.set_cons_succ]
          repeat (
            refine' Own.walkR_plain (by kernel_rfl) rfl rfl (fun wx hC hL => ?_) ?_
            rotate_left
            · (have hlw := Below.size hC
               have hlw1 := Nat.lt_of_lt_of_le lz hlw
               have hlw2 := Nat.lt_of_lt_of_le ly hlw
               simp only [Z1 wx hC, Y0 wx hC, Y1 wx hC, hlw1, hlw2, go_sem]; first | done | (go_simp; exact ⟨rfl, rfl⟩))
            simp only [Act.put, List.setIfInBounds_toArray, List.set_cons_zero, List.set_cons_succ])
          refine Own.walkR_rel (by kernel_rfl) rfl rfl (of_decide_eq_true (by kernel_rfl)) (fun wx hC hL => ?_) (fun v hv => ?_)
          · go_simp
            exact HCF.out t ht wx hC
          obtain ⟨_, _, rfl⟩ := hv
          simp only [Act.put, List.setIfInBounds_toArray, List.set_cons_zero, List.set_cons_succ]
          repeat (
            refine' Own.walkR_plain (by kernel_rfl) rfl rfl (fun wx hC hL => ?_) ?_
            rotate_left
            · (have hlw := Below.size hC
               have hlw1 := Nat.lt_of_lt_of_le lz hlw
               have hlw2 := Nat.lt_of_lt_of_le ly hlw
               simp only [Z1 wx hC, Y0 wx hC, Y1 wx hC, hlw1, hlw2, go_sem]; first | done | (go_simp; exact ⟨rfl, rfl⟩))
            simp only [Act.put, List.setIfInBounds_toArray, List.set_cons_zero, List.set_cons_succ])
          refine Own.walkR_rel (by kernel_rfl) rfl rfl (of_decide_eq_true (by kernel_rfl)) (fun wx hC hL => ?_) (fun v hv => ?_)
          · go_simp
            exact Own.blkA hC _ _
          obtain ⟨_, _, b60, rfl, -⟩ := hv
          simp only [Act.put, List.setIfInBounds_toArray, List.set_cons_zero, List.set_cons_succ]
          refine Own.walkR_idle (fun wx _ => Below.refl _ _) ?_
          refine Own.walkR_idle (fun wx _ => Below.refl _ _) ?_
          refine Own.walkR_idle (fun wx _ => Below.refl _ _) ?_
          refine fun w10 hE10 hK => ?_
          obtain ⟨bb, e60, h60⟩ : Own.isBlk #[.int .i64 (renum S f : Int), .int .i64 (renum S t : Int)] 43 (.slice (some ⟨b60, 0, none⟩) 1 1) w10 := hK.get 60 (by simp [Own.more]) rfl rfl
          injection e60 with e60
          injection e60 with e60
          injection e60 with e60
          subst e60
          have hW : Below w9.heap.size w9 w10 := hE10
          have HG7 := hidIt (HG5.out.go hW)
          have HK7 := hidIt (blk_kept2 HK5.out hW)
          have hsz7 := HG7.out.lt
          obtain ⟨L, hL⟩ : ∃ L, L = qs.length := ⟨_, rfl⟩
          have HLL := hidIt hL
          clear hK hE10 Z1 Y0 Y1 HCF hW z0 z1 lz kc kl y0 y1 ly
          rw [← hL] at hql HG7
          have HO7 : Hid (World.ownsRow w10 (Q + 1) 43 2 (.slice za L zc) L (qs.flatMap encP)) := by
            have h := HG7.out.own
            unfold OwnP at h
            rw [← HLL.out] at h
            exact h
          simp only [← hL]
          clear hL
          simp only [List.drop_succ_cons, List.drop_zero]
          refine wpList_append_kb (by rfl) (.tmp 50) (.tmp 60) elemP (by rfl) (Q + 1) (.slice za L zc) L _ (by rfl) HO7.out b60 1 (by rfl) #[.int .i64 (renum S f : Int), .int .i64 (renum S t : Int)] _ h60 rfl (one_of (by rfl)) (by omega) hsz7 ?_
          intro g8 c8 w8 hown8 hg8 hbl8
          have HL8 : Hid ((qs ++ [((renum S f : Int), (renum S t : Int))]).length = L + 1) := by show _ = _; rw [List.length_append, HLL.out]; rfl
          have HG8 : Hid (GR w (w.heap.size + 1) Q CN (w8.setCell ⟨Q, 1, none⟩ (.slice (some ⟨g8, 0, none⟩) (L + 1) c8)) (.slice (some ⟨g8, 0, none⟩) (L + 1) c8) (qs ++ [((renum S f : Int), (renum S t : Int))])) :=
            GR.app (x := ((renum S f : Int), (renum S t : Int))) HG7.out (by rw [← HLL.out]; exact hown8) hg8
          have HK8 : Hid ((w8.setCell ⟨Q, 1, none⟩ (.slice (some ⟨g8, 0, none⟩) (L + 1) c8)).heap[K]? = some (.cells #[bv S] 54 (0, 0))) := (GR.keep HG7.out hg8 hKQ).trans HK7.out
          have hOB : ∀ g, (Value.slice za L zc).ownBlock = some g → Q + 1 ≤ g := fun g e => (owns_blk HO7.out g e).1
          have hQ8 := (hg8.block Q (lt_of_block HG7.out.box) (fun e => by have := hOB _ e.symm; omega)).trans HG7.out.box
          have k0 := cell_two0 hQ8
          have k1 := cell_two1 hQ8
          have lk := lt_of_block hQ8
          have f8 := free_any hQ8 1
          clear hown8 hg8 hbl8 hOB HO7 HG7 HG5 hsz7 hQ8 h60
          go_wp2_with fail
          go_roundw
          case rel => exact ⟨k + 1, qs ++ [((renum S f : Int), (renum S t : Int))], some ⟨g8, 0, none⟩, c8, by go_num, by omega, HE.out, HK8.out, (by rw [HL8.out]; exact HG8.out)⟩
          case measure => simp [intOf]; omega
        · have hkI : ¬ (k : Int) < (M : Int) := by omega
          have HE : Hid (qs = partL S ps) := by
            have := HQ.out
            rwa [List.take_of_length_le (by rw [← HM.out]; omega)] at this
          obtain ⟨z0, z1⟩ := And.intro (cell_two0 HG.out.box) (cell_two1 HG.out.box)
          have lz := lt_of_block HG.out.box
          have r0 := cell_two0 HG.out.res
          have r1 := cell_two1 HG.out.res
          have lr := lt_of_block HG.out.res
          have g0 := free_any HG.out.res 0
          have g1 := free_any HG.out.res 1
          have HBF : Hid (∀ A B : Value, Below w.heap.size w ((wr.setCell ⟨w.heap.size + 1, 0, none⟩ A).setCell ⟨w.heap.size + 1, 1, none⟩ B)) := fun A B => below_set5 (below_set5 HG.out.bel (Nat.le_succ _)) (Nat.le_succ _)
          have HPF : Hid (∀ A B : Value, OwnPairs ((wr.setCell ⟨w.heap.size + 1, 0, none⟩ A).setCell ⟨w.heap.size + 1, 1, none⟩ B) w.heap.size (.slice za qs.length zc) qs) := fun A B => by
            have h2 := HG.out.pq
            refine (HG.out.own.own.kept (row := some (w.heap.size + 1)) (only_setCell (only_setCell (only_refl wr (some (w.heap.size + 1))) (.inl rfl) _) (.inl rfl) _) (fun g e b2 cap2 hv2 => ?_)).mono (by omega)
            injection e with e
            have h1 := (owns_blk HG.out.own b2 (by rw [hv2]; rfl)).1
            omega
          go_wp2_with fail
          refine bodyPost_ret (v := .agg #[.int .i64 CN, .slice za qs.length zc]) (by simp [results, Tryd.results13, go_sem, r0, r1, lr]) rfl ?_
          rw [HMM.out, HPS.out, HS.out.1, HS.out.2, ← HE.out]
          exact ⟨_, rfl, HPF.out _ _, HBF.out _ _⟩
end Go.Proofs.YtcelijjohcfhkaaDoor
