/- The law SearchMeet: for every list of numbers it answers true. -/
import Derived.Test.YtfiaoibfejginaaDoorZ1R
import Derived.Test.YtfiaoibfejginaaDoorZ1D
import Derived.Test.YtfiaoibfejginaaDoorZ1N1Mw

namespace Go.Proofs.YtfiaoibfejginaaDoor
set_option linter.unusedVariables false
set_option linter.unusedSimpArgs false
open Go Go.RowKit Go.Sort

theorem IR.il14 {w : World} {L N : Nat} {zs : List Int} (h : IR w L zs) (hl : zs.length = N) (hN : N ≤ 1000) : IL w (.slice (some ⟨L, 0, none⟩) N N) zs := by
  have h2 := h.il (c := N) (by omega) (by unfold maxLen; omega)
  rw [hl] at h2
  exact h2
/-- What some labellings have in common. -/
structure MeetI (N : Nat) (l : List (List Int)) (z : List Int) : Prop where
  len : z.length = N
  ok : LabOk z
  iff : ∀ i, i < N → ∀ v : Int, v = 1 ∨ v = 2 → (z.getD i 0 = v ↔ ∀ y ∈ l, y.getD i 0 = v)
theorem MeetI.one {N : Nat} {z : List Int} (hl : z.length = N) (ho : LabOk z) : MeetI N [z] z := ⟨hl, ho, fun i _ v _ => by simp⟩
theorem meet_get {x y : List Int} {N i : Nat} (hx : x.length = N) (hy : y.length = N) (hi : i < N) : (meetF x y).getD i 0 = if x.getD i 0 = y.getD i 0 then x.getD i 0 else 3 := by
  have hl : i < (meetF x y).length := by rw [meetF_len]; omega
  have e := meetF_get x y i hl (by omega) (by omega)
  rw [getD_at hl, getD_at (show i < x.length by omega), getD_at (show i < y.length by omega), e]
theorem MeetI.step {N : Nat} {l : List (List Int)} {z y : List Int} (h : MeetI N l z) (hy : y.length = N) (hz : z.length = N) : MeetI N (l ++ [y]) (meetF z y) := by
  refine ⟨by rw [meetF_len]; omega, fun x hx => ?_, fun i hi v hv => ?_⟩
  · obtain ⟨i, hi, rfl⟩ := List.getElem_of_mem hx
    have hiN : i < N := by rw [meetF_len] at hi; omega
    rw [← getD_at hi, meet_get hz hy hiN]
    by_cases e : z.getD i 0 = y.getD i 0
    · rw [if_pos e]; exact h.ok.get (by omega)
    · rw [if_neg e]; exact .inr (.inr rfl)
  · rw [meet_get hz hy hi]
    have hm : (∀ x ∈ l ++ [y], x.getD i 0 = v) ↔ (∀ x ∈ l, x.getD i 0 = v) ∧ y.getD i 0 = v := by
      constructor
      · exact fun hh => ⟨fun x hx => hh x (List.mem_append_left _ hx), hh y (List.mem_append_right _ (List.mem_cons_self ..))⟩
      · rintro ⟨h1, h2⟩ x hx
        rcases List.mem_append.1 hx with hx | hx
        · exact h1 x hx
        · rw [List.mem_singleton.1 hx]; exact h2
    rw [hm, ← h.iff i hi v hv]
    by_cases e : z.getD i 0 = y.getD i 0
    · rw [if_pos e]
      exact ⟨fun hh => ⟨hh, by rw [← e]; exact hh⟩, fun hh => hh.1⟩
    · rw [if_neg e]
      constructor
      · intro hh; rcases hv with rfl | rfl <;> cases hh
      · rintro ⟨h1, h2⟩; exact absurd (h1.trans h2.symm) e
theorem MeetI.fin {N : Nat} {ps : List (Int × Int)} (hok : GOk (N : Int) ps) {l : List (List Int)} {z lab rk : List Int} (h : MeetI N l z) (hl : ∀ y ∈ l, compB N ps y = true) (hs : GSpec N ps lab rk) (hm : lab ∈ l) : z = lab := by
  apply List.ext_getElem
  · rw [h.len, hs.ll]
  · intro i h1 h2
    have hi : i < N := by rw [← hs.ll]; exact h2
    rw [← getD_at h1, ← getD_at h2]
    have key : ∀ v : Int, v = 1 ∨ v = 2 → (z.getD i 0 = v ↔ lab.getD i 0 = v) := fun v hv => by
      rw [h.iff i hi v hv]
      constructor
      · exact fun hh => hh lab hm
      · intro hh y hy
        rw [← hs.least2 hok.ix ((comp_iff hok.ix).1 (hl y hy)) hi (by rcases hv with rfl | rfl; exact .inl hh; exact .inr hh)]
        exact hh
    have k1 := key 1 (.inl rfl)
    have k2 := key 2 (.inr rfl)
    have z3 := h.ok.get h1
    have l3 := hs.lo i hi
    rcases l3 with e | e | e
    · rw [e]; exact k1.2 e
    · rw [e]; exact k2.2 e
    · rcases z3 with f | f | f
      · have := k1.1 f; omega
      · have := k2.1 f; omega
      · omega

set_option maxRecDepth 100000 in
set_option maxHeartbeats 4000000 in
theorem meet_walk (lv : Value) (zs : List Int) (w : World) (hz : IntsAt w w.heap.size lv zs) (hT : Tab w) :
    Calls Tryd.prog 5 #[lv] w fun e w' => e = .returned (.bool true) ∧ Below w.heap.size w w' := by
  have HT := hidIt hT
  have HZ := hidIt hz
  clear hz hT
  go_enter Tryd.func5, Tryd.ntmps5
  go_wp2_with fail
  refine (new_any lv zs w.heap.size w HZ.out (Nat.le_refl _)).mono ?_
  rintro e w1 ⟨zs', rfl, hs1, o1, rfl⟩
  have HS1 := hidIt hs1
  have HB1 := hidIt (bgrow w o1)
  have hsz1 : w.heap.size < (w.alloc o1).heap.size := hs1.lt
  clear hs1
  generalize w.alloc o1 = w1 at *
  go_wp2_with fail
  refine (kGraph_any 9 (by decide) _ _ _ _ w1 HS1.out).mono ?_
  rintro e w2 ⟨N, ps, ga, gc, k2, rfl, hN, hok, hpl, hop, hs2, hg2⟩
  have HOK := hidIt hok
  have HPS := hidIt hpl
  have hgr := bgrow w2 (.cells #[.int .i64 (N : Int), .slice ga ps.length gc] 24)
  have HB2 := hidIt (below_read13 HB1.out hg2 (Nat.le_of_lt hsz1))
  have HW3 : Hid (LW w w2.heap.size N ga gc ps (w2.alloc (.cells #[.int .i64 (N : Int), .slice ga ps.length gc] 24))) :=
    ⟨heap_alloc_new w2 _, (hop.below hgr).lits, (HT.out.go HB2.out).go hgr, HB2.out.trans (Below.mono hgr HB2.out.size)⟩
  clear hok hpl hop hs2 hg2 hgr HB2 HS1 HB1
  go_upto_region 3 with (fail)
  generalize (w2.alloc (.cells #[.int .i64 (N : Int), .slice ga ps.length gc] 24)) = w3 at *
  generalize w2.heap.size = G at *
  obtain ⟨lab, rk, hsp⟩ := gspec_ex HOK.out
  have HSP := hidIt hsp
  have HCB : Hid (compB N ps lab = true) := (comp_iff HOK.out.ix).2 hsp.complete
  clear hsp
  have x0 := HW3.out.c0
  have x1 := HW3.out.c1
  have lx := HW3.out.l
  go_wp2_with fail
  refine (sComplete_any (N : Int) _ ps _ HW3.out.p (by have := HPS.out; omega) HW3.out.t).mono ?_
  rintro e w4 ⟨hb4, hr⟩
  have HW4 := hidIt (HW3.out.go hb4)
  clear hb4 x0 x1 lx HW3
  rcases hr with ⟨h0, -⟩ | ⟨-, ⟨va, ls, rfl, hcl, hll, hsr⟩ | ⟨rfl, hm⟩⟩
  · exact absurd (valE_of HOK.out) h0
  · rw [Int.toNat_natCast] at hcl
    have HCL := hidIt hcl
    have HLLL := hidIt hsr.ll
    have HMEM : Hid (lab ∈ ls) := (hcl.mem lab).2 HCB.out
    obtain ⟨M, hM⟩ : ∃ M, M = ls.length := ⟨_, rfl⟩
    have HM := hidIt hM
    have hM1 : 0 < M := by rw [hM]; exact List.length_pos_of_mem HMEM.out
    have hM2 : M ≤ 200 := by rw [hM]; exact hll
    obtain ⟨aa, ca, rfl, hcs⟩ := HLLL.out.lc
    have HCS := hidIt hcs
    rw [← hM] at HLLL ⊢
    have hMne : ¬ (M : Int) = 0 := by omega
    have hM0 : (0 : Int) < (M : Int) := by omega
    clear hcs hM hcl hsr hll
    obtain ⟨b0, o0, ua, un, uc, rfl, lb0, cc0, -⟩ := HCS.out 0 (by have := HM.out; omega)
    rw [Nat.add_zero] at cc0
    have x0 := HW4.out.c0
    have x1 := HW4.out.c1
    have lx := HW4.out.l
    go_wp2_with fail
    refine (uLabel_any N ga gc ps _ HW4.out.p HOK.out (by have := HPS.out; omega)).mono ?_
    rintro e w5 ⟨L, lab', rk', rfl, hir, hsp', hb5⟩
    obtain rfl : lab = lab' := (HSP.out.uniq HOK.out.ix hsp').1
    have hlabN := HSP.out.ll
    have HIR := hidIt (hir.il14 hlabN (by omega))
    have HW5 := hidIt (HW4.out.go hb5)
    have HC5 : Hid (∀ i (h : i < ls.length), ∃ (ua : Option Addr) (un uc : Nat), b0 < w5.heap.size ∧ w5.cell? ⟨b0, o0 + i, none⟩ = some (.slice ua un uc) ∧ IL w5 (.slice ua un uc) ls[i]) := fun i h => by
      obtain ⟨b, off, ua, un, uc, he, hb, hc, hi⟩ := HCS.out i h
      injection he with he
      injection he with he1 he2
      subst he1 he2
      exact ⟨ua, un, uc, Nat.lt_of_lt_of_le hb hb5.size, (Below.cell (p := ⟨b0, o0 + i, none⟩) hb5 hb).trans hc, hi.below hb5⟩
    have HI0 : Hid (IL w5 (.slice ua un uc) (ls[0]'(by have := HM.out; omega))) := by
      obtain ⟨b, off, ua', un', uc', he, hb, hc, hi⟩ := HCS.out 0 (by have := HM.out; omega)
      injection he with he
      injection he with he1 he2
      subst he1 he2
      rw [Nat.add_zero, cc0] at hc
      injection hc with hc
      rw [hc]
      exact hi.below hb5
    have HLN : Hid (∀ i (h : i < ls.length), ls[i].length = N ∧ LabOk ls[i]) := fun i h => by
      have hc := (HCL.out.mem _).1 (List.getElem_mem h)
      have := (comp_iff HOK.out.ix).1 hc
      exact ⟨this.len, this.ok⟩
    have HM0 : Hid (MeetI N (ls[0]'(by have := HM.out; omega) :: ls.take 0) (ls[0]'(by have := HM.out; omega))) := by
      obtain ⟨h1, h2⟩ := HLN.out 0 (by have := HM.out; omega)
      exact MeetI.one h1 h2
    clear x0 x1 lx cc0 lb0 hir hsp' hb5 HW4 HCS HLLL hlabN
    go_wp2_with fail
    go_loopw [7, 8, 11, 38] (fun v7 v8 _ v38 wr => ∃ (k : Nat) (z : List Int), k ≤ M ∧ v38 = .int .i64 k ∧ v8 = .bool (decide (lab ∈ ls.take k)) ∧ Hid (IL wr v7 z) ∧ Hid (MeetI N (ls[0]'(by have := HM.out; omega) :: ls.take k) z) ∧ Hid (Below w5.heap.size w5 wr)) (fun _ _ _ v38 _ => M - (intOf v38).toNat)
    case atStart => exact ⟨0, _, Nat.zero_le _, rfl, rfl, HI0, HM0, Below.refl _ _⟩
    case round =>
      clear HI0 HM0
      obtain ⟨k, z, hk, rfl, rfl, HI, HMI, HBr⟩ := hrel
      have hk0 : (0 : Int) ≤ (k : Int) := by omega
      have HWr := hidIt (HW5.out.go HBr.out)
      obtain ⟨a7, c7, rfl, -⟩ := HI.out.ic
      by_cases hlt : k < M
      · have hkI : (k : Int) < (M : Int) := by omega
        have hkl : k < ls.length := by have := HM.out; omega
        obtain ⟨ua1, un1, uc1, lb, cc, hi1⟩ := HC5.out k hkl
        have HY := hidIt (hi1.below HBr.out)
        have cy := (Below.cell (p := ⟨b0, o0 + k, none⟩) HBr.out lb).trans cc
        have lb2 := Nat.lt_of_lt_of_le lb HBr.out.size
        have HYL := hidIt (HLN.out k hkl)
        have HST : Hid (ls.take (k + 1) = ls.take k ++ [ls[k]]) := List.take_succ_eq_append_getElem hkl
        have HZL := hidIt HMI.out.len
        clear lb cc hi1
        generalize ls[k] = y at *
        go_wp2_with fail
        refine (lMeet_any _ _ z y _ HI.out HY.out (by have := HZL.out; omega) (by have := HYL.out.1; omega)).mono ?_
        rintro e w6 ⟨b6, rfl, hb6, hir6, hbl6⟩
        have HZ6 : Hid (IL w6 (.slice (some ⟨b6, 0, none⟩) (min z.length y.length) (min z.length y.length)) (meetF z y)) := hir6.il14 (meetF_len z y) (by have := HYL.out.1; omega)
        have HM6 : Hid (MeetI N (ls[0]'(by have := HM.out; omega) :: ls.take (k + 1)) (meetF z y)) := by
          have := HMI.out.step HYL.out.1 HZL.out
          rw [List.cons_append, ← HST.out] at this
          exact this
        have HY6 := hidIt (HY.out.below hbl6)
        have HX6 := hidIt (HIR.out.below (HBr.out.trans (Below.mono hbl6 HBr.out.size)))
        have HB6 := hidIt (HBr.out.trans (Below.mono hbl6 HBr.out.size))
        clear hb6 hir6 hbl6 HI HY HMI HBr HWr cy lb2
        by_cases hin : lab ∈ ls.take k
        · have HD : Hid (decide (lab ∈ ls.take (k + 1)) = true) := decide_eq_true (by rw [HST.out]; exact List.mem_append_left _ hin)
          rw [decide_eq_true hin]
          go_wp2_with fail
          go_roundw
          case rel => exact ⟨k + 1, meetF z y, by omega, by go_num, by rw [HD.out], HZ6, HM6, HB6⟩
          case measure => simp [intOf]; omega
        · have HD : Hid (decide (lab ∈ ls.take (k + 1)) = decide (lab = y)) := by
            show _ = _
            rw [HST.out]
            by_cases e : lab = y
            · rw [decide_eq_true e, decide_eq_true (List.mem_append_right _ (by rw [e]; exact List.mem_cons_self ..))]
            · rw [decide_eq_false e, decide_eq_false fun h => by
                rcases List.mem_append.1 h with h | h
                · exact hin h
                · exact e (List.mem_singleton.1 h)]
          rw [decide_eq_false hin]
          go_wp2_with fail
          refine (kInts_any _ _ lab y _ HX6.out HY6.out (by have := HSP.out.ll; omega) (by have := HYL.out.1; omega)).mono ?_
          rintro e w7 ⟨rfl, hb7⟩
          have HZ7 := hidIt (HZ6.out.below hb7)
          have HB7 := hidIt (HB6.out.trans (Below.mono hb7 HB6.out.size))
          go_wp2_with fail
          go_roundw
          case rel => exact ⟨k + 1, meetF z y, by omega, by go_num, by rw [HD.out], HZ7, HM6, HB7⟩
          case measure => simp [intOf]; omega
      · have hkI : ¬ (k : Int) < (M : Int) := by omega
        have hkM : k = ls.length := by have := HM.out; omega
        have HE : Hid (z = lab) := HMI.out.fin HOK.out (fun y hy => by
          rcases List.mem_cons.1 hy with rfl | hy
          · exact (HCL.out.mem _).1 (List.getElem_mem _)
          · exact (HCL.out.mem _).1 (List.mem_of_mem_take hy)) HSP.out (List.mem_cons_of_mem _ (by rw [hkM, List.take_length]; exact HMEM.out))
        rw [decide_eq_true (show lab ∈ ls.take k by rw [hkM, List.take_length]; exact HMEM.out)]
        have HXr := hidIt (HIR.out.below HBr.out)
        have HZL := hidIt HMI.out.len
        go_wp2_with fail
        refine (kInts_any _ _ z lab _ HI.out HXr.out (by have := HZL.out; omega) (by have := HSP.out.ll; omega)).mono ?_
        rw [decide_eq_true HE.out]
        rintro e w6 ⟨rfl, hb6⟩
        have HW6 := hidIt (HWr.out.go hb6)
        go_wp2_with fail
        refine (awake14_any _ HW6.out.t).mono ?_
        rintro e w7 ⟨rfl, hb7⟩
        go_wp2_with fail
        go_ret
        exact ⟨rfl, HW6.out.b.trans (Below.mono hb7 HW6.out.b.size)⟩
  · go_wp2_with fail
    refine (awake14_any _ HW4.out.t).mono ?_
    rintro e w5 ⟨rfl, hb5⟩
    go_wp2_with fail
    go_ret
    exact ⟨rfl, HW4.out.b.trans (Below.mono hb5 HW4.out.b.size)⟩
end Go.Proofs.YtfiaoibfejginaaDoor
