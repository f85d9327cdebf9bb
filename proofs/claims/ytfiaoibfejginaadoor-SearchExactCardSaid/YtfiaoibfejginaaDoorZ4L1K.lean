/- Which nodes are not legal: the program's Illegal and IsComplete. -/
import Derived.Test.YtfiaoibfejginaaDoorZ4L1J

namespace Go.Proofs.YtfiaoibfejginaaDoor
set_option linter.unusedVariables false
set_option linter.unusedSimpArgs false
open Go Go.RowKit Go.Sort

def legC (c1 c3 : Int) : Int := if 0 < c1 then 2 else if 0 < c3 then 3 else 1
/-- The label with which a node is legal. -/
def legL (ps : List (Int × Int)) (l : List Int) (i : Nat) : Int := legC (cntLb ps l i 1) (cntLb ps l i 3)
def illTo (ps : List (Int × Int)) (l : List Int) (k : Nat) : List Nat := (List.range k).filter fun i => decide (l.getD i 0 ≠ legL ps l i)
/-- The nodes that are not legal. -/
def illL (N : Nat) (ps : List (Int × Int)) (l : List Int) : List Nat := if validB N l = true then illTo ps l N else []
theorem illTo_step (ps : List (Int × Int)) (l : List Int) (k : Nat) : illTo ps l (k + 1) = illTo ps l k ++ if l.getD k 0 = legL ps l k then [] else [k] := by
  unfold illTo
  rw [List.range_succ, List.filter_append]
  congr 1
  by_cases hx : l.getD k 0 = legL ps l k
  · rw [if_pos hx, List.filter_cons, decide_eq_false (fun h => h hx)]; rfl
  · rw [if_neg hx, List.filter_cons, decide_eq_true hx]; rfl
theorem illTo_len (ps : List (Int × Int)) (l : List Int) (k : Nat) : (illTo ps l k).length ≤ k := by
  unfold illTo
  exact Nat.le_trans (List.length_filter_le _ _) (by rw [List.length_range]; exact Nat.le_refl _)
theorem illL_len (N : Nat) (ps : List (Int × Int)) (l : List Int) : (illL N ps l).length ≤ N := by
  unfold illL
  split
  · exact illTo_len _ _ _
  · exact Nat.zero_le _

set_option maxHeartbeats 400000 in
theorem lLegal_any (c0 c1 c2 c3 : Int) (w : World) : Calls Tryd.prog 56 #[.agg #[.int .i64 c0, .int .i64 c1, .int .i64 c2, .int .i64 c3]] w fun e w' => e = .returned (.int .i64 (legC c1 c3)) ∧ Below w.heap.size w w' := by
  have HX := hidIt (heap_alloc_new w (.cells #[.int .i64 c0, .int .i64 c1, .int .i64 c2, .int .i64 c3] 80))
  have HB := hidIt (bgrow w (.cells #[.int .i64 c0, .int .i64 c1, .int .i64 c2, .int .i64 c3] 80))
  have HV : Hid (legC c1 c3 = if 0 < c1 then 2 else if 0 < c3 then 3 else 1) := (rfl : _ = _)
  generalize legC c1 c3 = V at *
  go_enter Tryd.func56, Tryd.ntmps56
  go_upto_region 1 with (fail)
  generalize (w.alloc (.cells #[.int .i64 c0, .int .i64 c1, .int .i64 c2, .int .i64 c3] 80)) = w1 at *
  have x1 : w1.cell? ⟨w.heap.size, 1, none⟩ = some (.int .i64 c1) := by simp [World.cell?, HX.out]
  have x3 : w1.cell? ⟨w.heap.size, 3, none⟩ = some (.int .i64 c3) := by simp [World.cell?, HX.out]
  have lx := lt_of_block HX.out
  by_cases h1 : 0 < c1
  · have HE : Hid (V = 2) := by show _ = _; rw [HV.out, if_pos h1]
    go_wp2_with fail
    go_ret
    exact ⟨ret_int HE.out.symm, HB.out⟩
  · by_cases h3 : 0 < c3
    · have HE : Hid (V = 3) := by show _ = _; rw [HV.out, if_neg h1, if_pos h3]
      go_wp2_with fail
      go_ret
      exact ⟨ret_int HE.out.symm, HB.out⟩
    · have HE : Hid (V = 1) := by show _ = _; rw [HV.out, if_neg h1, if_neg h3]
      go_wp2_with fail
      go_ret
      exact ⟨ret_int HE.out.symm, HB.out⟩

set_option maxRecDepth 100000 in
set_option maxHeartbeats 2000000 in
theorem lIllegal_any (N : Nat) (v v2 : Value) (ps : List (Int × Int)) (l : List Int) (w : World) (h : PairsAt w v ps) (hok : GOk (N : Int) ps) (hl : ps.length ≤ 1000) (hs : IL w v2 l) (hsl : l.length ≤ 1000) :
    Calls Tryd.prog 40 #[.agg #[.int .i64 (N : Int), v], v2] w fun e w' => ∃ (a : Option Addr) (c : Nat), e = .returned (.slice a (illL N ps l).length c) ∧ OwnI w' w.heap.size (.slice a (illL N ps l).length c) (ints (illL N ps l)) ∧ Below w.heap.size w w' := by
  have hB := bgrow w (.cells #[.int .i64 (N : Int), v] 24)
  have H1 := hidIt (h.below hB)
  have HS1 := hidIt (hs.below hB)
  obtain ⟨a, c, rfl, -⟩ := h.form
  obtain ⟨a2, c2, rfl, -⟩ := hs.form
  have HX := hidIt (heap_alloc_new w (.cells #[.int .i64 (N : Int), .slice a ps.length c] 24))
  have HB := hidIt hB
  have HOK := hidIt hok
  have hN : N ≤ 40 := by have := hok.n40; omega
  have HV : Hid (illL N ps l = if validB N l = true then illTo ps l N else []) := (rfl : _ = _)
  clear h hs hB hok
  go_enter Tryd.func40, Tryd.ntmps40
  go_upto_region 1 with (fail)
  generalize (w.alloc (.cells #[.int .i64 (N : Int), .slice a ps.length c] 24)) = w1 at *
  obtain ⟨x0, x1⟩ := And.intro (cell_two0 HX.out) (cell_two1 HX.out)
  have lx := lt_of_block HX.out
  cases hv : validB N l
  · have HE : Hid (illL N ps l = []) := by show _ = _; rw [HV.out, hv]; rfl
    have HVV := hidIt hv
    clear hv
    go_wp2_with fail
    refine (lValid_any N _ _ ps l _ H1.out HOK.out hl HS1.out hsl).mono ?_
    rw [HVV.out]
    rintro e w2 ⟨rfl, hb2⟩
    have HB2 := hidIt (HB.out.trans (Below.mono hb2 HB.out.size))
    clear hb2
    go_wp2_with fail
    go_ret
    rw [HE.out]
    exact ⟨none, 0, rfl, OwnI.nil _ _, HB2.out⟩
  have HE : Hid (illL N ps l = illTo ps l N) := by show _ = _; rw [HV.out, hv]; rfl
  have HVV := hidIt hv
  have HLN := hidIt (validB_iff.1 hv).1
  have HLAB := hidIt (validB_iff.1 hv).2
  clear hv HV
  go_wp2_with fail
  refine (lValid_any N _ _ ps l _ H1.out HOK.out hl HS1.out hsl).mono ?_
  rw [HVV.out]
  rintro e w2 ⟨rfl, hb2⟩
  have HX2 := hidIt (blk_kept2 HX.out hb2)
  have HB2 := hidIt (HB.out.trans (Below.mono hb2 HB.out.size))
  have H2 := hidIt (H1.out.below hb2)
  have HS2 := hidIt (HS1.out.below hb2)
  clear hb2 HB HX H1 HS1 x0 x1 lx
  obtain ⟨x0, x1⟩ := And.intro (cell_two0 HX2.out) (cell_two1 HX2.out)
  have lx := lt_of_block HX2.out
  go_wp2_with fail
  refine (lTallies_any N _ _ ps l _ H2.out HOK.out hl HS2.out HLN.out HLAB.out).mono ?_
  rintro e w3 ⟨R, rfl, hR, ht3, hb3⟩
  have HT3 := hidIt ht3
  have HB3 := hidIt (HB2.out.trans (Below.mono hb3 HB2.out.size))
  obtain ⟨a2', c2', he2, hic⟩ := (HS2.out.below hb3).ic
  injection he2 with he2 he3 he4
  subst he2 he4
  have HIC := hidIt hic
  have hRw : w.heap.size ≤ R := Nat.le_trans HB2.out.size hR
  clear ht3 hb3 hic he3 HX2 H2 HS2 HB2 x0 x1 lx hR
  have hll := HLN.out
  rw [hll]
  clear hll
  go_wp2_with fail
  go_loopw [5, 6, 7, 16] (fun v5 _ _ i wr => ∃ (k m : Nat) (a5 : Option Addr) (c5 : Nat), k ≤ N ∧ v5 = .slice a5 m c5 ∧ i = .int .i64 k ∧ Hid (m = (illTo ps l k).length) ∧ Hid (OwnI wr w3.heap.size (.slice a5 m c5) (ints (illTo ps l k))) ∧ Hid (Below w3.heap.size w3 wr)) (fun _ _ _ i _ => N - (intOf i).toNat)
  case atStart => exact ⟨0, 0, none, 0, Nat.zero_le _, (by first | rfl | trivial), (by first | rfl | trivial), (rfl : 0 = (illTo ps l 0).length), OwnI.nil _ _, Below.refl _ _⟩
  case round =>
    obtain ⟨k, m, a5, c5, hk, rfl, rfl, HM, HO, HBr⟩ := hrel
    have hkI0 : (0 : Int) ≤ (k : Int) := by omega
    by_cases hlt : k < N
    · have hkI : (k : Int) < (N : Int) := by omega
      have hkl : k < l.length := by have := HLN.out; omega
      have HTr := hidIt (HT3.out.go HBr.out)
      have hln : ∀ x, x < 4 → k * 4 + x < (talR N ps l).length := fun x hx => by rw [talR_len]; omega
      have t0 := HTr.out.cell (hln 0 (by decide))
      have t1 := HTr.out.cell (hln 1 (by decide))
      have t2 := HTr.out.cell (hln 2 (by decide))
      have t3 := HTr.out.cell (hln 3 (by decide))
      rw [talR_get (by decide)] at t0 t1 t2 t3
      rw [Nat.add_zero] at t0
      have HST := hidIt (illTo_step ps l k)
      have HLG : Hid (legL ps l k = legC (cntLb ps l k 1) (cntLb ps l k 3)) := (rfl : _ = _)
      have hm5 : m ≤ k := by rw [HM.out]; exact illTo_len _ _ _
      have HTL : Hid ((ints (illTo ps l k)).length = m) := by show _ = _; rw [ints_len]; exact HM.out.symm
      generalize cntLb ps l k 0 = n0 at *
      generalize cntLb ps l k 1 = n1 at *
      generalize cntLb ps l k 2 = n2 at *
      generalize cntLb ps l k 3 = n3 at *
      have hgr := bgrow wr (.cells #[.int .i64 (n0 : Int), .int .i64 (n1 : Int), .int .i64 (n2 : Int), .int .i64 (n3 : Int)] 80)
      have HQ := hidIt (heap_alloc_new wr (.cells #[.int .i64 (n0 : Int), .int .i64 (n1 : Int), .int .i64 (n2 : Int), .int .i64 (n3 : Int)] 80))
      have HO4 := hidIt (HO.out.go hgr)
      have HB4 := hidIt (HBr.out.trans (Below.mono hgr HBr.out.size))
      clear hgr hln
      go_upto_region 7 with (fail)
      generalize (wr.alloc (.cells #[.int .i64 (n0 : Int), .int .i64 (n1 : Int), .int .i64 (n2 : Int), .int .i64 (n3 : Int)] 80)) = w4 at *
      generalize wr.heap.size = Q at *
      clear t0 t1 t2 t3 HTr HO HBr
      obtain ⟨b1, o1, rfl, l1, hc1⟩ := (HIC.out.go HB4.out).at_ hkl
      have p0 := hc1 k hkl
      have hgd : l.getD k 0 = l[k] := by rw [List.getD_eq_getElem?_getD, List.getElem?_eq_getElem hkl]; rfl
      rw [hgd] at HST
      clear hc1 hgd
      generalize l[k] = z at *
      clear hkl
      have y0 : w4.cell? ⟨Q, 0, none⟩ = some (.int .i64 (n0 : Int)) := by simp [World.cell?, HQ.out]
      have y1 : w4.cell? ⟨Q, 1, none⟩ = some (.int .i64 (n1 : Int)) := by simp [World.cell?, HQ.out]
      have y2 : w4.cell? ⟨Q, 2, none⟩ = some (.int .i64 (n2 : Int)) := by simp [World.cell?, HQ.out]
      have y3 : w4.cell? ⟨Q, 3, none⟩ = some (.int .i64 (n3 : Int)) := by simp [World.cell?, HQ.out]
      have ly := lt_of_block HQ.out
      have P0 := fun y => Ext.cell p0 y
      have Y0 := fun y => Ext.cell y0 y
      have Y1 := fun y => Ext.cell y1 y
      have Y2 := fun y => Ext.cell y2 y
      have Y3 := fun y => Ext.cell y3 y
      have LY := fun y : In (Ext w4) => Nat.lt_of_lt_of_le ly (Below.size y.h)
      have HCA := hidIt (fun wx => lLegal_any (n0 : Int) (n1 : Int) (n2 : Int) (n3 : Int) wx)
      rw [← HLG.out] at HCA
      generalize legL ps l k = L at *
      by_cases he : z = L
      · have hb : (z != L) = false := by rw [he]; exact bne_self_eq_false _
        rw [if_pos he, List.append_nil] at HST
        clear he
        haveI := Ext.nonempty w4
        refine wp_region_in (Ext w4) (by kernel_rfl) (by kernel_rfl) (Ext.start w4) ?_
        repeat (go_big_quiet_step ((go_at_call 56; refine Ext.call (HCA.out _))))
        refine wpQuiet_nil ?_
        rintro w5 ⟨⟨_, h5⟩, rfl⟩
        have HO5 := hidIt (HO4.out.go h5)
        have HB5 := hidIt (HB4.out.trans (Below.mono h5 HB4.out.size))
        clear h5 P0 Y0 Y1 Y2 Y3 LY y0 y1 y2 y3 ly p0 l1
        go_wp2_with fail
        go_roundw
        case rel => exact ⟨k + 1, m, a5, c5, by omega, (by first | rfl | trivial), by go_num, (by rw [HST.out]; exact HM.out), (by rw [HST.out]; exact HO5.out), HB5.out⟩
        case measure => simp [intOf]; omega
      · have hb : (z != L) = true := bne_iff_ne.2 he
        rw [if_neg he] at HST
        clear he
        haveI := Ext.nonempty w4
        refine wp_region_in (Ext w4) (by kernel_rfl) (by kernel_rfl) (Ext.start w4) ?_
        repeat (go_big_quiet_step ((go_at_call 56; refine Ext.call (HCA.out _))))
        refine wpQuiet_nil ?_
        rintro w5 ⟨⟨_, h5⟩, rfl⟩
        have HO5 := hidIt (HO4.out.go h5)
        have HB5 := hidIt (HB4.out.trans (Below.mono h5 HB4.out.size))
        clear h5 P0 Y0 Y1 Y2 Y3 LY y0 y1 y2 y3 ly p0 l1
        have HO7 := hidIt (HO5.out.news HTL.out (.cells #[.int .i64 (k : Int)] 3))
        have HB7 := hidIt (HB5.out.trans (Below.mono (bgrow w5 (.cells #[.int .i64 (k : Int)] 3)) HB5.out.size))
        have hsz7 : w3.heap.size ≤ (w5.alloc (.cells #[.int .i64 (k : Int)] 3)).heap.size := HB7.out.size
        go_wp2_with (at_builtin; refine Hid.out ?_)
        refine hidIt ?_
        refine wpList_append_kb rfl _ _ elemI rfl w3.heap.size (.slice a5 m c5) m _ rfl HO7.out _ 1 rfl #[.int .i64 (k : Int)] 3 (heap_alloc_new _ _) rfl (one_of (by rfl)) (by omega) hsz7 ?_
        intro g8 c8 w8 hown8 hg8 hbl8
        have HB8 := hidIt (below_app5 HB7.out hg8 (fun g e => (owns_blk HO7.out g e).1) hsz7)
        have HO8 : Hid (OwnI w8 w3.heap.size (.slice (some ⟨g8, 0, none⟩) (m + 1) c8) (ints (illTo ps l (k + 1)))) := by
          have := OwnI.done HTL.out hown8
          show OwnI _ _ _ _
          rw [HST.out]
          unfold ints at this ⊢
          rw [List.map_append]
          exact this
        have HL8 : Hid (m + 1 = (illTo ps l (k + 1)).length) := by show _ = _; rw [HST.out, List.length_append, ← HM.out]; rfl
        clear hown8 hg8 hbl8 HO7 HB7 hsz7 HO5 HB5
        go_wp2_with fail
        go_roundw
        case rel => exact ⟨k + 1, m + 1, some ⟨g8, 0, none⟩, c8, by omega, (by first | rfl | trivial), by go_num, HL8.out, HO8.out, HB8.out⟩
        case measure => simp [intOf]; omega
    · obtain rfl : k = N := by omega
      have hkI : ¬ (k : Int) < (k : Int) := by omega
      have HBF := hidIt (HB3.out.trans (Below.mono HBr.out HB3.out.size))
      have HOF := hidIt (owns_mono HO.out HB3.out.size)
      go_wp2_with fail
      go_ret
      rw [HE.out, ← HM.out]
      exact ⟨a5, c5, rfl, HOF.out, HBF.out⟩

set_option maxRecDepth 100000 in
set_option maxHeartbeats 1000000 in
theorem lIsComplete_any (N : Nat) (v v2 : Value) (ps : List (Int × Int)) (l : List Int) (w : World) (h : PairsAt w v ps) (hok : GOk (N : Int) ps) (hl : ps.length ≤ 1000) (hs : IL w v2 l) (hsl : l.length ≤ 1000) :
    Calls Tryd.prog 19 #[.agg #[.int .i64 (N : Int), v], v2] w fun e w' => e = .returned (.bool (validB N l && decide ((illL N ps l).length = 0))) ∧ Below w.heap.size w w' := by
  have hB := bgrow w (.cells #[.int .i64 (N : Int), v] 24)
  have H1 := hidIt (h.below hB)
  have HS1 := hidIt (hs.below hB)
  obtain ⟨a, c, rfl, -⟩ := h.form
  obtain ⟨a2, c2, rfl, -⟩ := hs.form
  have HX := hidIt (heap_alloc_new w (.cells #[.int .i64 (N : Int), .slice a ps.length c] 24))
  have HB := hidIt hB
  have HOK := hidIt hok
  clear h hs hB hok
  go_enter Tryd.func19, Tryd.ntmps19
  go_upto_region 1 with (fail)
  generalize (w.alloc (.cells #[.int .i64 (N : Int), .slice a ps.length c] 24)) = w1 at *
  obtain ⟨x0, x1⟩ := And.intro (cell_two0 HX.out) (cell_two1 HX.out)
  have lx := lt_of_block HX.out
  have HVC := hidIt (lValid_any N _ _ ps l _ H1.out HOK.out hl HS1.out hsl)
  cases hv : validB N l
  · rw [hv] at HVC
    have HVV := hidIt hv
    clear hv
    go_wp2_with fail
    refine HVC.out.mono ?_
    rintro e w2 ⟨rfl, hb2⟩
    have HB2 := hidIt (HB.out.trans (Below.mono hb2 HB.out.size))
    clear hb2
    go_wp2_with fail
    go_ret
    exact ⟨ret_bool (by first | rfl | simp [HVV.out]), HB2.out⟩
  rw [hv] at HVC
  have HVV := hidIt hv
  clear hv
  go_wp2_with fail
  refine HVC.out.mono ?_
  rintro e w2 ⟨rfl, hb2⟩
  have HX2 := hidIt (blk_kept2 HX.out hb2)
  have HB2 := hidIt (HB.out.trans (Below.mono hb2 HB.out.size))
  have H2 := hidIt (H1.out.below hb2)
  have HS2 := hidIt (HS1.out.below hb2)
  clear hb2 HB HX H1 HS1 x0 x1 lx HVC
  obtain ⟨x0, x1⟩ := And.intro (cell_two0 HX2.out) (cell_two1 HX2.out)
  have lx := lt_of_block HX2.out
  go_wp2_with fail
  refine (lIllegal_any N _ _ ps l _ H2.out HOK.out hl HS2.out hsl).mono ?_
  rintro e w3 ⟨a3, c3, rfl, -, hb3⟩
  have HB3 := hidIt (HB2.out.trans (Below.mono hb3 HB2.out.size))
  clear hb3
  obtain ⟨n, hn⟩ : ∃ n, n = (illL N ps l).length := ⟨_, rfl⟩
  have HNN := hidIt hn
  rw [← hn]
  clear hn
  by_cases h0 : n = 0
  · have hb : ((n : Int) == 0) = true := beq_iff_eq.2 (by omega)
    have HD : Hid ((validB N l && decide ((illL N ps l).length = 0)) = true) := by show _ = _; rw [HVV.out, ← HNN.out, decide_eq_true h0]; rfl
    clear h0
    go_wp2_with fail
    go_ret
    exact ⟨ret_bool HD.out.symm, HB3.out⟩
  · have hb : ((n : Int) == 0) = false := beq_eq_false_iff_ne.2 (by omega)
    have HD : Hid ((validB N l && decide ((illL N ps l).length = 0)) = false) := by show _ = _; rw [HVV.out, ← HNN.out, decide_eq_false h0]; rfl
    clear h0
    go_wp2_with fail
    go_ret
    exact ⟨ret_bool HD.out.symm, HB3.out⟩
end Go.Proofs.YtfiaoibfejginaaDoor
