/- visit: as the function says, while nodes are left that have not been visited. -/
import Derived.Test.YtcelijjohcfhkaaDoorG0Y
namespace Go.Proofs.YtcelijjohcfhkaaDoor
set_option linter.unusedVariables false
set_option linter.unusedSimpArgs false
open Go Go.RowKit Go.Sort

set_option maxRecDepth 100000 in
set_option maxHeartbeats 8000000 in
theorem visit_any (w0 : World) (WB ab pb B N : Nat) (att : Nat → BitVec 64) (hN : N ≤ 40) (ha : ∀ i j, (att i).getLsbD j = true → j < N) (hT0 : Tab w0) : ∀ (f i : Nat) (s : St) (sv cv : Value) (w : World), WK w0 WB ab pb B N att w s sv cv → WF N s → i < N → s.places i = 0 → zeros N s.places ≤ f →
    Calls Tryd.prog 26 #[.pointer (some ⟨WB, 0, none⟩), .int .i64 (i : Int)] w fun e w' => e = .returned (.int .i64 (visitF att f i s).1) ∧ ∃ sv' cv', WK w0 WB ab pb B N att w' (visitF att f i s).2 sv' cv' ∧ Fr WB pb w w' sv cv sv' cv' := by
  intro f
  induction f with
  | zero => intro i s sv cv w _ _ hi hz hf; have := zeros_pos hi hz; omega
  | succ f ih =>
    intro i s sv cv w hW hwf hi hz hf
    have IH := hidIt ih
    have HWF := hidIt hwf
    have HT0 := hidIt hT0
    have HZ := hidIt hz
    obtain ⟨e1, e2, e3⟩ := enter_wf hwf hN hi hz
    have HE1 := hidIt e1
    have HE2 := hidIt e2
    have HVF : Hid (visitF att (f + 1) i s = leaveF (s.stack.length + 1) ((members (att i)).foldl (stepF (visitF att f)) (((s.stack.length + 1 : Nat) : Int), enterF i s))) := by show _ = _; rw [visitF]
    have HMID := hidIt (mid_after att N hN ha f i s hwf hi hz)
    have HMEM : Hid (∀ k ∈ members (att i), k < N) := fun k hk => ha i k (mem_members.1 hk).2
    have HF : Hid (zeros N s.places ≤ f + 1) := hf
    generalize visitF att (f + 1) i s = VR at *
    obtain ⟨L, hL⟩ : ∃ L, L = s.stack.length := ⟨_, rfl⟩
    have HL := hidIt hL
    obtain ⟨sa, sc, rfl, hsc1, hsc2⟩ := shape_own hW.stk
    have hlen := ints_len s.stack
    rw [hlen, ← hL] at hsc1
    rw [hlen, ← hL] at hW
    rw [← hL] at e3
    have HW0 := hidIt hW
    obtain ⟨x0, x1, x2, x3⟩ := four0 hW.box
    have lx := lt_of_block hW.box
    have f1 := free_any hW.box 1
    have hg1 := bgrow w (.cells #[.int .i64 (i : Int)] 3)
    have HW1 := hidIt (hW.go hg1)
    have HO1 : Hid (World.ownsRow (w.alloc (.cells #[.int .i64 (i : Int)] 3)) B 3 1 (.slice sa L sc) L ((ints s.stack).map (Value.int .i64))) := by
      have h := HW1.out.stk
      unfold OwnI at h
      rw [hlen, ← hL] at h
      exact h
    have hbig := HW1.out.big
    clear hW hwf hz e1 e2 hf ih hT0 hg1 hlen hL
    go_enter Tryd.func26, Tryd.ntmps26
    go_wp2_with (at_builtin; refine Hid.out ?_)
    refine hidIt ?_
    refine wpList_append_kb rfl _ _ elemI rfl B (.slice sa L sc) L _ rfl HO1.out _ 1 rfl #[.int .i64 (i : Int)] 3 (heap_alloc_new _ _) rfl (one_of (by rfl)) (by omega) hbig ?_
    intro g8 c8 w8 hown8 hg8 hbl8
    have HW2 : Hid (WK w0 WB ab pb B N att (w8.setCell ⟨WB, 1, none⟩ (.slice (some ⟨g8, 0, none⟩) (L + 1) c8)) ⟨s.stack ++ [i], s.places, s.comps⟩ (.slice (some ⟨g8, 0, none⟩) (L + 1) c8) cv) := WK.push HW1.out (by rw [← HL.out]; exact hown8) hg8 hbl8
    have HFA : Hid (Fr WB pb w w8 (.slice sa L sc) cv (.slice (some ⟨g8, 0, none⟩) (L + 1) c8) cv) := by
      have h := ((Fr.refl WB pb w (.slice sa L sc) cv).below (bgrow w (.cells #[.int .i64 (i : Int)] 3)))
      exact h.push hg8 hbl8
    have hb8 := (hg8.block WB (lt_of_block HW1.out.box) (fun e => by have := (owns_blk HO1.out _ e.symm).1; have := HW1.out.hi.1; omega)).trans HW1.out.box
    obtain ⟨k0, k1, k2, k3⟩ := four0 hb8
    have lk := lt_of_block hb8
    have fk := free_any hb8 1
    clear hown8 hg8 hbl8 HO1 hb8 x0 x1 x2 x3 lx f1 HW0 HW1 hbig
    have HFB := hidIt (HFA.out.box 1 (.slice (some ⟨g8, 0, none⟩) (L + 1) c8))
    clear HFA
    go_upto_region 2 with (fail)
    generalize w8.setCell ⟨WB, 1, none⟩ (.slice (some ⟨g8, 0, none⟩) (L + 1) c8) = w2 at *
    clear k0 k1 k2 k3 lk fk
    obtain ⟨x0, x1, x2, x3⟩ := four0 HW2.out.box
    have lx := lt_of_block HW2.out.box
    have q0 := HW2.out.pl.cell hi
    have fq := free_any HW2.out.pl i
    have lq := lt_of_block HW2.out.pl
    have hi0 : (0 : Int) ≤ (i : Int) := by omega
    have hiI : (i : Int) < (N : Int) := by omega
    have HW3 : Hid (WK w0 WB ab pb B N att (w2.setCell ⟨pb, i, none⟩ (.int .i64 ((L : Int) + 1))) (enterF i s) (.slice (some ⟨g8, 0, none⟩) (L + 1) c8) cv) := by
      have h := HW2.out.place i ((L : Int) + 1)
      have e : enterF i s = ⟨s.stack ++ [i], updI s.places i ((L : Int) + 1), s.comps⟩ := by unfold enterF; rw [← HL.out]; rfl
      show WK _ _ _ _ _ _ _ _ _ _ _
      rw [e]
      exact h
    have HFC := hidIt (HFB.out.place i (.int .i64 ((L : Int) + 1)))
    clear HFB
    go_upto_region 5 with (fail)
    generalize w2.setCell ⟨pb, i, none⟩ (.int .i64 ((L : Int) + 1)) = w3 at *
    clear x0 x1 x2 x3 lx q0 fq lq HW2
    obtain ⟨x0, x1, x2, x3⟩ := four0 HW3.out.box
    have lx := lt_of_block HW3.out.box
    have ac := HW3.out.att.cell hi
    have la := lt_of_block HW3.out.att
    have HT3 := hidIt (HT0.out.go HW3.out.bel)
    go_wp2_with fail
    refine (elements_any (att i) _ HT3.out).mono ?_
    rintro e w4 ⟨ev, rfl, ho, hb⟩
    have HW4 := hidIt (HW3.out.go hb)
    have HFD := hidIt (HFC.out.below hb)
    have hebk : ∀ g, ev.ownBlock = some g → w3.heap.size ≤ g ∧ g < w4.heap.size := fun g e => owns_blk ho g e
    have HS34 : Hid (w3.heap.size ≤ w4.heap.size) := hb.size
    have HSV : Hid (∀ g, (Value.slice (some ⟨g8, 0, none⟩) (L + 1) c8).ownBlock = some g → B ≤ g ∧ g < w3.heap.size) := fun g e => owns_blk HW3.out.stk g e
    have HCV : Hid (∀ g, cv.ownBlock = some g → B ≤ g ∧ g < w3.heap.size) := fun g e => owns_blk HW3.out.cmp g e
    have HB3 : Hid (B ≤ w3.heap.size) := HW3.out.big
    obtain ⟨ea, ec, rfl, hic⟩ := ho.il.ic
    rw [ints_len]
    have HEL := hidIt hic
    have HEB : Hid (∀ b off, ea = some ⟨b, off, none⟩ → w3.heap.size ≤ b ∧ b < w4.heap.size) := fun b off e => by
      subst e
      rcases ho.2 with ⟨h, -⟩ | ⟨g, cap, cur, h, -⟩
      · cases h
      · injection h with h1 h2 h3
        injection h1 with h1
        injection h1 with h1 h4 h5
        subst h1 h4
        exact hebk b rfl
    obtain ⟨M, hM⟩ : ∃ M, M = (members (att i)).length := ⟨_, rfl⟩
    have HM := hidIt hM
    rw [← hM]
    have hM64 : M ≤ 64 := by rw [hM]; exact members_len _
    clear ho hb hic hM hebk x0 x1 x2 x3 lx ac la HW3 HT3
    go_wp2_with fail
    have HEK : Hid (∀ wr svr cvr, Fr WB pb w4 wr (.slice (some ⟨g8, 0, none⟩) (L + 1) c8) cv svr cvr → IC wr ea (ints (members (att i)))) := fun wr svr cvr hfr => by
      rcases HEL.out with h | ⟨b, off, hb1, hb2, hb3⟩
      · exact .inl h
      · obtain ⟨he1, he2⟩ := HEB.out b off hb1
        have hk := hfr.kept b he2 (by have := HB3.out; have := HW4.out.hi; omega) (by have := HB3.out; have := HW4.out.hi; omega) (fun e => by have := (HSV.out b e).2; omega) (fun e => by have := (HCV.out b e).2; omega)
        refine .inr ⟨b, off, hb1, Nat.lt_of_lt_of_le he2 hfr.size, fun j hj => ?_⟩
        rw [World.cell?_of_block (w := w4) (w' := wr) (a := ⟨b, off + j, none⟩) hk]
        exact hb3 j hj
    go_loopw [6, 8, 41] (fun v6 _ vj wr => ∃ (j : Nat) (p : Int × St) (svr cvr : Value), v6 = .int .i64 p.1 ∧ vj = .int .i64 (j : Int) ∧ j ≤ M ∧ Hid (p = ((members (att i)).take j).foldl (stepF (visitF att f)) (((s.stack.length + 1 : Nat) : Int), enterF i s)) ∧ Hid (WK w0 WB ab pb B N att wr p.2 svr cvr) ∧ Hid (Fr WB pb w4 wr (.slice (some ⟨g8, 0, none⟩) (L + 1) c8) cv svr cvr)) (fun _ _ vj _ => M - (intOf vj).toNat)
    case atStart => exact ⟨0, (((s.stack.length + 1 : Nat) : Int), enterF i s), _, _, (by first | rfl | (rw [← HL.out]; rfl)), (by first | rfl | trivial), Nat.zero_le _, (rfl : _ = _), HW4.out, Fr.refl _ _ _ _ _⟩
    case round =>
      obtain ⟨j, p, svr, cvr, rfl, rfl, hj, HP, HW, HFR⟩ := hrel
      have hjI0 : (0 : Int) ≤ (j : Int) := by omega
      obtain ⟨x0, x1, x2, x3⟩ := four0 HW.out.box
      have lx := lt_of_block HW.out.box
      have hsub : ∀ k ∈ (members (att i)).take j, k < N := fun k hk => HMEM.out k (List.mem_of_mem_take hk)
      have hAf := HMID.out _ hsub
      rw [← HP.out] at hAf
      have HAF := hidIt hAf
      clear hAf hsub
      by_cases hlt : j < M
      · have hjI : (j : Int) < (M : Int) := by omega
        have hjl : j < (members (att i)).length := by rw [← HM.out]; exact hlt
        obtain ⟨b, off, rfl, lb, hcs⟩ := (HEK.out wr svr cvr HFR.out).at_ (k := j) (by rw [ints_len]; exact hjl)
        have c0 : wr.cell? ⟨b, off + j, none⟩ = some (.int .i64 (((members (att i))[j] : Nat) : Int)) := by
          have := hcs j (by rw [ints_len]; exact hjl)
          rw [this]
          unfold ints
          simp
        have hkN : (members (att i))[j] < N := HMEM.out _ (List.getElem_mem _)
        have HPN : Hid (stepF (visitF att f) p (members (att i))[j] = ((members (att i)).take (j + 1)).foldl (stepF (visitF att f)) (((s.stack.length + 1 : Nat) : Int), enterF i s)) := by
          show _ = _
          rw [List.take_succ_eq_append_getElem hjl, List.foldl_append, ← HP.out]
          rfl
        generalize (members (att i))[j] = k at *
        clear hcs
        have hk0 : (0 : Int) ≤ (k : Int) := by omega
        have hkI : (k : Int) < (N : Int) := by omega
        have q0 := HW.out.pl.cell hkN
        have lq := lt_of_block HW.out.pl
        have HVAL := hidIt HAF.out.val
        have HRNG := hidIt (HAF.out.wf.range k)
        obtain ⟨p1, p2⟩ := p
        simp only at q0 HW HAF HVAL HRNG ⊢
        by_cases hpk : p2.places k = 0
        · have HST : Hid (stepF (visitF att f) (p1, p2) k = (min p1 (visitF att f k p2).1, (visitF att f k p2).2)) := by show _ = _; unfold stepF; rw [if_pos hpk]
          have hz : zeros N p2.places ≤ f := by
            have h1 := HAF.out.zle
            have h2 := HE2.out
            have h3 := HF.out
            simp only at h1
            omega
          have HCA := hidIt (IH.out k p2 svr cvr wr HW.out HAF.out.wf hkN hpk hz)
          have HV2 : Hid (0 ≤ (visitF att f k p2).1 ∧ (visitF att f k p2).1 ≤ 41) := (visit_after att N hN ha f k p2 HAF.out.wf hkN hpk).val
          have hb1 : (p2.places k == 0) = true := beq_iff_eq.2 hpk
          clear hpk hz
          go_wp2_with fail
          refine HCA.out.mono ?_
          rintro e w5 ⟨rfl, sv5, cv5, hw5, hf5⟩
          have HW5 := hidIt hw5
          have HF5 := hidIt (HFR.out.trans hf5)
          clear hw5 hf5 HCA x0 x1 x2 x3 lx q0 lq
          generalize visitF att f k p2 = r at *
          obtain ⟨r1, r2⟩ := r
          simp only at HW5 HST HV2 ⊢
          by_cases hmin : p1 ≤ r1
          · have HMI : Hid (min p1 r1 = p1) := Int.min_eq_left hmin
            rw [HMI.out] at HST
            go_wp2_with fail
            go_roundw
            case rel => exact ⟨j + 1, (p1, r2), sv5, cv5, (by first | rfl | (rw [HMI.out])), by go_num, by omega, (by show _ = _; rw [← HPN.out, HST.out]), HW5.out, HF5.out⟩
            case measure => simp [intOf]; omega
          · have HMI : Hid (min p1 r1 = r1) := Int.min_eq_right (by omega)
            rw [HMI.out] at HST
            go_wp2_with fail
            go_roundw
            case rel => exact ⟨j + 1, (r1, r2), sv5, cv5, (by first | rfl | (rw [HMI.out])), by go_num, by omega, (by show _ = _; rw [← HPN.out, HST.out]), HW5.out, HF5.out⟩
            case measure => simp [intOf]; omega
        · have HST : Hid (stepF (visitF att f) (p1, p2) k = (min p1 (p2.places k), p2)) := by show _ = _; unfold stepF; rw [if_neg hpk]
          have hb1 : (p2.places k == 0) = false := beq_eq_false_iff_ne.2 hpk
          clear hpk
          generalize hr1 : p2.places k = r1 at *
          by_cases hmin : p1 ≤ r1
          · have HMI : Hid (min p1 r1 = p1) := Int.min_eq_left hmin
            rw [HMI.out] at HST
            go_wp2_with fail
            go_roundw
            case rel => exact ⟨j + 1, (p1, p2), svr, cvr, (by first | rfl | (rw [HMI.out])), by go_num, by omega, (by show _ = _; rw [← HPN.out, HST.out]), HW.out, HFR.out⟩
            case measure => simp [intOf]; omega
          · have HMI : Hid (min p1 r1 = r1) := Int.min_eq_right (by omega)
            rw [HMI.out] at HST
            go_wp2_with fail
            go_roundw
            case rel => exact ⟨j + 1, (r1, p2), svr, cvr, (by first | rfl | (rw [HMI.out])), by go_num, by omega, (by show _ = _; rw [← HPN.out, HST.out]), HW.out, HFR.out⟩
            case measure => simp [intOf]; omega
      · have hjI : ¬ (j : Int) < (M : Int) := by omega
        have HPE : Hid (p = (members (att i)).foldl (stepF (visitF att f)) (((s.stack.length + 1 : Nat) : Int), enterF i s)) := by
          have h := HP.out
          rwa [List.take_of_length_le (by rw [← HM.out]; omega)] at h
        rw [← HPE.out] at HVF
        have hstl : L + 1 ≤ p.2.stack.length := by
          have h := HAF.out.pre.length_le
          unfold enterF at h
          simp only [List.length_append, List.length_cons, List.length_nil] at h
          have := HL.out
          omega
        have HFE := hidIt (HFD.out.trans HFR.out)
        obtain ⟨p1, p2⟩ := p
        simp only at HW HAF hstl HVF ⊢
        by_cases hown : p1 = (L : Int) + 1
        · have HVR : Hid (VR = (p1, completeF (L + 1) p2)) := by
            show _ = _
            rw [HVF.out, ← HL.out]
            unfold leaveF
            rw [if_pos (by rw [hown]; rfl)]
          have hb1 : (p1 == (L : Int) + 1) = true := beq_iff_eq.2 hown
          have HCO := hidIt (complete_any w0 WB ab pb B N att p2 svr cvr (L + 1) wr HW.out HAF.out.wf hN (by omega) hstl)
          have HOW := hidIt hown
          clear hown
          go_wp2_with fail
          refine HCO.out.mono ?_
          rintro e w6 ⟨rfl, sv6, cv6, hw6, hf6⟩
          have HW6 := hidIt hw6
          have HF6 := hidIt (HFE.out.trans hf6)
          clear hw6 hf6
          go_wp2_with fail
          go_ret
          rw [HVR.out, ints_len, ← HL.out]
          exact ⟨rfl, _, _, HW6.out, HF6.out⟩
        · have HVR : Hid (VR = (p1, p2)) := by
            show _ = _
            rw [HVF.out, ← HL.out]
            unfold leaveF
            rw [if_neg (by
              intro h
              have h2 : p1 = ((L + 1 : Nat) : Int) := h
              exact hown (by rw [h2]; rfl))]
          have hb1 : (p1 == (L : Int) + 1) = false := beq_eq_false_iff_ne.2 hown
          clear hown
          go_wp2_with fail
          go_ret
          rw [HVR.out, ints_len, ← HL.out]
          exact ⟨rfl, _, _, HW.out, HFE.out⟩
end Go.Proofs.YtcelijjohcfhkaaDoor
