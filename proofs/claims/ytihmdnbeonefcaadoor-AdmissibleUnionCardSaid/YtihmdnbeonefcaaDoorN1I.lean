/- The reference's functions on sets: hit, ConflictFree, Defends. -/
import Derived.Test.YtihmdnbeonefcaaDoorN1F
import Derived.Test.YtihmdnbeonefcaaDoorG0I
import Derived.Test.YtihmdnbeonefcaaDoorG0H
import Derived.Test.YtihmdnbeonefcaaDoorRelN
namespace Go.Proofs.YtihmdnbeonefcaaDoor
set_option linter.unusedVariables false
set_option linter.unusedSimpArgs false
open Go Go.RowKit Go.Sort

theorem any_step13 {xs : List Int} {k : Nat} (h : k < xs.length) (f : Int → Bool) : (xs.take (k + 1)).any f = ((xs.take k).any f || f xs[k]) := by
  rw [List.take_succ_eq_append_getElem h, List.any_append]
  simp
theorem hit_list {N : Nat} {ps : List (Int × Int)} (hix : ∀ p ∈ ps, (0 ≤ p.1 ∧ p.1 < (N : Int)) ∧ (0 ≤ p.2 ∧ p.2 < (N : Int))) (x : List Int) (i : Nat) : hitX ps (memB x) i = x.any fun z => decide ((z, (i : Int)) ∈ ps) := by
  rw [Bool.eq_iff_iff, hitX_iff hix, List.any_eq_true]
  constructor
  · rintro ⟨k, hk, hx⟩
    exact ⟨(k : Int), of_decide_eq_true hx, decide_eq_true hk⟩
  · rintro ⟨z, hz, hp⟩
    have hp := of_decide_eq_true hp
    have := hix _ hp
    simp only at this
    obtain ⟨k, rfl⟩ : ∃ k : Nat, z = (k : Int) := ⟨z.toNat, by omega⟩
    exact ⟨k, hp, decide_eq_true hz⟩
theorem cf_list {N : Nat} {ps : List (Int × Int)} (hix : ∀ p ∈ ps, (0 ≤ p.1 ∧ p.1 < (N : Int)) ∧ (0 ≤ p.2 ∧ p.2 < (N : Int))) (x : List Int) : cfX ps (memB x) = !(x.any fun a => x.any fun b => decide ((a, b) ∈ ps)) := by
  rw [Bool.eq_iff_iff, cfX_iff hix, Bool.not_eq_true', List.any_eq_false]
  constructor
  · intro h a ha hb
    obtain ⟨b, hb, hp⟩ := List.any_eq_true.1 hb
    have hp := of_decide_eq_true hp
    have := hix _ hp
    simp only at this
    obtain ⟨k, rfl⟩ : ∃ k : Nat, a = (k : Int) := ⟨a.toNat, by omega⟩
    obtain ⟨i, rfl⟩ : ∃ i : Nat, b = (i : Int) := ⟨b.toNat, by omega⟩
    exact h k i hp (decide_eq_true ha) (decide_eq_true hb)
  · intro h k i hk h1 h2
    exact h _ (of_decide_eq_true h1) (List.any_eq_true.2 ⟨_, of_decide_eq_true h2, decide_eq_true hk⟩)
theorem df_list {N : Nat} {ps : List (Int × Int)} (hix : ∀ p ∈ ps, (0 ≤ p.1 ∧ p.1 < (N : Int)) ∧ (0 ≤ p.2 ∧ p.2 < (N : Int))) (X : Nat → Bool) (i : Nat) : dfX ps X i = !((inL ps (i : Int)).any fun z => !(hitX ps X z.toNat)) := by
  rw [Bool.eq_iff_iff, dfX_iff hix, Bool.not_eq_true', List.any_eq_false]
  unfold inL
  constructor
  · intro h z hz
    rw [List.mem_map] at hz
    obtain ⟨p, hp, rfl⟩ := hz
    obtain ⟨hp, he⟩ := List.mem_filter.1 hp
    have hr := hix p hp
    have he := beq_iff_eq.1 he
    have e2 : ((p.1.toNat : Int), (i : Int)) = p := Prod.ext (by simp only; omega) he.symm
    rw [(hitX_iff hix).2 (h p.1.toNat (by unfold At; rw [e2]; exact hp))]
    decide
  · intro h k hk
    have := h (k : Int) (List.mem_map.2 ⟨_, List.mem_filter.2 ⟨hk, beq_iff_eq.2 rfl⟩, rfl⟩)
    rw [Int.toNat_natCast] at this
    exact (hitX_iff hix).1 (by simpa using this)

set_option maxRecDepth 100000 in
set_option maxHeartbeats 2000000 in
theorem raHit_any (N i : Nat) (v v2 : Value) (ps : List (Int × Int)) (x : List Int) (w : World) (h : PairsAt w v ps) (hok : GOk (N : Int) ps) (hpl : ps.length ≤ 100000) (hs : IL w v2 x) (hsl : x.length ≤ 100000) :
    Calls Tryd.prog 57 #[.agg #[.int .i64 (N : Int), v], v2, .int .i64 (i : Int)] w fun e w' => e = .returned (.bool (hitX ps (memB x) i)) ∧ Below w.heap.size w w' := by
  have hB := bgrow w (.cells #[.int .i64 (N : Int), v] 27)
  have H1 := hidIt (h.below hB)
  obtain ⟨a, c, rfl, -⟩ := h.form
  obtain ⟨a2, c2, rfl, k2⟩ := (hs.below hB).ic
  have K2 := hidIt k2
  have HX := hidIt (heap_alloc_new w (.cells #[.int .i64 (N : Int), .slice a ps.length c] 27))
  have HB := hidIt hB
  have HM := hidIt (hit_list hok.ix x i)
  have HVL := hidIt (vL_of hok)
  have HPL := hidIt hpl
  generalize hitX ps (memB x) i = R at *
  generalize hf : (fun z : Int => decide ((z, (i : Int)) ∈ ps)) = f at HM
  have HFF : Hid (∀ z : Int, decide ((z, (i : Int)) ∈ ps) = f z) := fun z => by rw [← hf]
  clear h hs hB k2 hok hpl hf
  go_enter Tryd.func57, Tryd.ntmps57
  go_upto_region 1 with (fail)
  generalize (w.alloc (.cells #[.int .i64 (N : Int), .slice a ps.length c] 27)) = w1 at *
  generalize w.heap.size = P at HX ⊢
  obtain ⟨M, hM⟩ : ∃ M, M = x.length := ⟨_, rfl⟩
  have HML := hidIt hM
  rw [← hM] at hsl ⊢
  clear hM
  go_wp2_with fail
  go_loopw [7] (fun i wr => ∃ k : Nat, k ≤ M ∧ i = .int .i64 k ∧ Hid (Below w1.heap.size w1 wr) ∧ Hid ((x.take k).any f = false)) (fun i _ => M - (intOf i).toNat)
  case atStart => exact ⟨0, Nat.zero_le _, (by first | rfl | trivial), Below.refl _ _, (rfl : (([] : List Int).any f) = false)⟩
  case round =>
    obtain ⟨k, hk, rfl, HBr, HT⟩ := hrel
    have hkI0 : (0 : Int) ≤ (k : Int) := by omega
    by_cases hlt : k < M
    · have hkI : (k : Int) < (M : Int) := by omega
      have h1x : k < x.length := by have := HML.out; omega
      have HXr := hidIt (blk_kept2 HX.out HBr.out)
      obtain ⟨b1, o1, rfl, l1, hc1⟩ := (K2.out.go HBr.out).at_ h1x
      have p0 := hc1 k h1x
      have HST := hidIt (any_step13 h1x f)
      have HTL : Hid (x.any f = true ∨ f x[k] = false) := by
        cases hfz : f x[k]
        · exact .inr rfl
        · exact .inl (List.any_eq_true.2 ⟨_, List.getElem_mem h1x, hfz⟩)
      generalize x[k] = z at *
      clear hc1 h1x
      have x0 := cell_two0 HXr.out
      have x1 := cell_two1 HXr.out
      have lx := lt_of_block HXr.out
      have X0 := fun y => Ext.cell x0 y
      have X1 := fun y => Ext.cell x1 y
      have P0 := fun y => Ext.cell p0 y
      have LX := fun y : In (Ext wr) => Nat.lt_of_lt_of_le lx (Below.size y.h)
      have LP := fun y : In (Ext wr) => Nat.lt_of_lt_of_le l1 (Below.size y.h)
      have HC : Hid (∀ wx : World, Ext wr wx → Calls Tryd.prog 50 #[.agg #[.int .i64 (N : Int), .slice a ps.length c], .int .i64 z, .int .i64 (i : Int)] wx fun e w' => e = .returned (.bool (f z)) ∧ Below wx.heap.size wx w') := fun wx hC => by
        have := rgHas_any (N : Int) _ ps z (i : Int) wx ((H1.out.below HBr.out).below hC) (by have := HPL.out; omega)
        rw [HVL.out, HFF.out z] at this
        exact this
      cases hfz : f z
      · have HE : Hid ((x.take (k + 1)).any f = false) := by show _ = _; rw [HST.out, HT.out, hfz]; rfl
        rw [hfz] at HC
        clear hfz
        go_wp2_with fail
        haveI := Ext.nonempty wr
        refine wp_region_in (Ext wr) (by kernel_rfl) (by kernel_rfl) (Ext.start wr) ?_
        repeat (go_big_quiet_step ((go_at_call 50; refine Ext.call (HC.out _ (In.h _)))))
        refine wpQuiet_nil ?_
        rintro w5 ⟨⟨_, h5⟩, rfl⟩
        have HB5 := hidIt (HBr.out.trans (Below.mono h5 HBr.out.size))
        clear h5 X0 X1 P0 LX LP x0 x1 lx p0 l1
        go_wp2_with fail
        go_roundw
        case rel => exact ⟨k + 1, by omega, by go_num, HB5.out, HE.out⟩
        case measure => simp [intOf]; omega
      · have HE : Hid (R = true) := by
          show _ = _
          rw [HM.out]
          rcases HTL.out with h | h
          · exact h
          · rw [hfz] at h; cases h
        rw [hfz] at HC
        clear hfz
        go_wp2_with fail
        haveI := Ext.nonempty wr
        refine wp_region_in (Ext wr) (by kernel_rfl) (by kernel_rfl) (Ext.start wr) ?_
        repeat (go_big_quiet_step ((go_at_call 50; refine Ext.call (HC.out _ (In.h _)))))
        refine wpQuiet_nil ?_
        rintro w5 ⟨⟨_, h5⟩, rfl⟩
        have HB5 := hidIt (HB.out.trans (Below.mono (HBr.out.trans (Below.mono h5 HBr.out.size)) HB.out.size))
        clear h5 X0 X1 P0 LX LP x0 x1 lx p0 l1
        go_wp2_with fail
        go_ret
        exact ⟨ret_bool HE.out.symm, HB5.out⟩
    · have hkI : ¬ (k : Int) < (M : Int) := by omega
      have HE : Hid (R = false) := by
        have := HT.out
        rw [List.take_of_length_le (by have := HML.out; omega)] at this
        show _ = _
        rw [HM.out, this]
      have HB5 := hidIt (HB.out.trans (Below.mono HBr.out HB.out.size))
      go_wp2_with fail
      go_ret
      exact ⟨ret_bool HE.out.symm, HB5.out⟩

set_option maxRecDepth 100000 in
set_option maxHeartbeats 2000000 in
theorem raConflictFree_any (N : Nat) (v v2 : Value) (ps : List (Int × Int)) (x : List Int) (w : World) (h : PairsAt w v ps) (hok : GOk (N : Int) ps) (hpl : ps.length ≤ 100000) (hs : IL w v2 x) (hsl : x.length ≤ 100000) :
    Calls Tryd.prog 17 #[.agg #[.int .i64 (N : Int), v], v2] w fun e w' => e = .returned (.bool (setB N x && cfX ps (memB x))) ∧ Below w.heap.size w w' := by
  have hB := bgrow w (.cells #[.int .i64 (N : Int), v] 27)
  have H1 := hidIt (h.below hB)
  have H2 := hidIt (hs.below hB)
  obtain ⟨a, c, rfl, -⟩ := h.form
  obtain ⟨a2, c2, rfl, k2⟩ := (hs.below hB).ic
  have K2 := hidIt k2
  have HX := hidIt (heap_alloc_new w (.cells #[.int .i64 (N : Int), .slice a ps.length c] 27))
  have HB := hidIt hB
  have HVL := hidIt (vL_of hok)
  have HPL := hidIt hpl
  have HSL := hidIt hsl
  have HM : Hid (∀ r, (setB N x && cfX ps (memB x)) = r ↔ (setB N x && !(x.any fun a => x.any fun b => decide ((a, b) ∈ ps))) = r) := fun r => by rw [cf_list hok.ix]
  generalize (setB N x && cfX ps (memB x)) = R at *
  generalize hf : (fun a b : Int => decide ((a, b) ∈ ps)) = f
  have HM1 : Hid (R = (setB N x && !(x.any fun a => x.any (f a)))) := by
    show _ = _
    rw [← hf]
    exact ((HM.out R).1 rfl).symm
  have HFF : Hid (∀ a b : Int, decide ((a, b) ∈ ps) = f a b) := fun a b => by rw [← hf]
  clear h hs hB k2 hok hpl hf HM
  go_enter Tryd.func17, Tryd.ntmps17
  go_upto_region 1 with (fail)
  generalize (w.alloc (.cells #[.int .i64 (N : Int), .slice a ps.length c] 27)) = w1 at *
  generalize w.heap.size = P at HX ⊢
  obtain ⟨M, hM⟩ : ∃ M, M = x.length := ⟨_, rfl⟩
  have HML := hidIt hM
  rw [← hM] at hsl H2 ⊢
  clear hM
  go_wp2_with fail
  go_loopw [5, 6] (fun i _ wr => ∃ k : Nat, k ≤ M ∧ i = .int .i64 k ∧ Hid (Below w1.heap.size w1 wr) ∧ Hid ((x.take k).any (fun a => x.any (f a)) = false)) (fun i _ _ => M - (intOf i).toNat)
  case atStart => exact ⟨0, Nat.zero_le _, (by first | rfl | trivial), Below.refl _ _, (rfl : (([] : List Int).any _) = false)⟩
  case round =>
    obtain ⟨k, hk, rfl, HBr, HT⟩ := hrel
    have hkI0 : (0 : Int) ≤ (k : Int) := by omega
    by_cases hlt : k < M
    · have hkI : (k : Int) < (M : Int) := by omega
      have h1x : k < x.length := by have := HML.out; omega
      have HST := hidIt (any_step13 h1x (fun a => x.any (f a)))
      have HKX := hidIt (List.getElem_mem h1x)
      have HGE : Hid (∀ w3 : World, Below w1.heap.size w1 w3 → ∃ b o, a2 = some ⟨b, o, none⟩ ∧ b < w3.heap.size ∧ w3.cell? ⟨b, o + k, none⟩ = some (.int .i64 x[k])) := fun w3 h => by
        obtain ⟨b, o, e, l, hc⟩ := (K2.out.go h).at_ h1x
        exact ⟨b, o, e, l, hc k h1x⟩
      generalize x[k] = z at *
      clear h1x
      go_wp2_with fail
      go_loopw [6] (fun j w' => ∃ q : Nat, q ≤ M ∧ j = .int .i64 q ∧ Hid (Below w1.heap.size w1 w') ∧ Hid ((x.take q).any (f z) = false)) (fun j _ => M - (intOf j).toNat)
      case atStart => exact ⟨0, Nat.zero_le _, (by first | rfl | trivial), HBr.out, (rfl : (([] : List Int).any _) = false)⟩
      case round =>
        clear HBr
        obtain ⟨q, hq, rfl, HBr, HTq⟩ := hrel
        have hqI0 : (0 : Int) ≤ (q : Int) := by omega
        by_cases hqt : q < M
        · have hqI : (q : Int) < (M : Int) := by omega
          have h1q : q < x.length := by have := HML.out; omega
          have HXr := hidIt (blk_kept2 HX.out HBr.out)
          obtain ⟨b1, o1, rfl, l1, p0⟩ := HGE.out wr HBr.out
          have q0 : wr.cell? ⟨b1, o1 + q, none⟩ = some (.int .i64 x[q]) := by
            obtain ⟨b', o', he, -, hc⟩ := (K2.out.go HBr.out).at_ h1q
            injection he with he
            injection he with he1 he2
            subst he1 he2
            exact hc q h1q
          have HSQ := hidIt (any_step13 h1q (f z))
          have HTL : Hid (f z x[q] = true → x.any (fun a => x.any (f a)) = true) := fun h => List.any_eq_true.2 ⟨z, HKX.out, List.any_eq_true.2 ⟨_, List.getElem_mem h1q, h⟩⟩
          generalize x[q] = y at *
          clear h1q
          have x0 := cell_two0 HXr.out
          have x1 := cell_two1 HXr.out
          have lx := lt_of_block HXr.out
          have X0 := fun y => Ext.cell x0 y
          have X1 := fun y => Ext.cell x1 y
          have P0 := fun y => Ext.cell p0 y
          have Q0 := fun y => Ext.cell q0 y
          have LX := fun y : In (Ext wr) => Nat.lt_of_lt_of_le lx (Below.size y.h)
          have LP := fun y : In (Ext wr) => Nat.lt_of_lt_of_le l1 (Below.size y.h)
          have HC : Hid (∀ wx : World, Ext wr wx → Calls Tryd.prog 50 #[.agg #[.int .i64 (N : Int), .slice a ps.length c], .int .i64 z, .int .i64 y] wx fun e w' => e = .returned (.bool (f z y)) ∧ Below wx.heap.size wx w') := fun wx hC => by
            have := rgHas_any (N : Int) _ ps z y wx ((H1.out.below HBr.out).below hC) (by have := HPL.out; omega)
            rw [HVL.out, HFF.out z y] at this
            exact this
          cases hfz : f z y
          · have HE : Hid ((x.take (q + 1)).any (f z) = false) := by show _ = _; rw [HSQ.out, HTq.out, hfz]; rfl
            rw [hfz] at HC
            clear hfz
            go_wp2_with fail
            haveI := Ext.nonempty wr
            refine wp_region_in (Ext wr) (by kernel_rfl) (by kernel_rfl) (Ext.start wr) ?_
            repeat (go_big_quiet_step ((go_at_call 50; refine Ext.call (HC.out _ (In.h _)))))
            refine wpQuiet_nil ?_
            rintro w5 ⟨⟨_, h5⟩, rfl⟩
            have HB5 := hidIt (HBr.out.trans (Below.mono h5 HBr.out.size))
            clear h5 X0 X1 P0 Q0 LX LP x0 x1 lx p0 q0 l1
            go_wp2_with fail
            go_roundw
            case rel => exact ⟨q + 1, by omega, by go_num, HB5.out, HE.out⟩
            case measure => simp [intOf]; omega
          · have HE : Hid (R = false) := by
              show _ = _
              rw [HM1.out, HTL.out hfz, Bool.not_true, Bool.and_false]
            rw [hfz] at HC
            clear hfz
            go_wp2_with fail
            haveI := Ext.nonempty wr
            refine wp_region_in (Ext wr) (by kernel_rfl) (by kernel_rfl) (Ext.start wr) ?_
            repeat (go_big_quiet_step ((go_at_call 50; refine Ext.call (HC.out _ (In.h _)))))
            refine wpQuiet_nil ?_
            rintro w5 ⟨⟨_, h5⟩, rfl⟩
            have HB5 := hidIt (HB.out.trans (Below.mono (HBr.out.trans (Below.mono h5 HBr.out.size)) HB.out.size))
            clear h5 X0 X1 P0 Q0 LX LP x0 x1 lx p0 q0 l1
            go_wp2_with fail
            go_ret
            exact ⟨ret_bool HE.out.symm, HB5.out⟩
        · have hqI : ¬ (q : Int) < (M : Int) := by omega
          have HE : Hid ((x.take (k + 1)).any (fun a => x.any (f a)) = false) := by
            have := HTq.out
            rw [List.take_of_length_le (by have := HML.out; omega)] at this
            show _ = _
            rw [HST.out, HT.out, this]
            rfl
          go_wp2_with fail
          go_roundw
          case rel => exact ⟨k + 1, by omega, by go_num, HBr.out, HE.out⟩
          case measure => simp [intOf]; omega
    · have hkI : ¬ (k : Int) < (M : Int) := by omega
      have HE : Hid (R = setB N x) := by
        have := HT.out
        rw [List.take_of_length_le (by have := HML.out; omega)] at this
        show _ = _
        rw [HM1.out, this, Bool.not_false, Bool.and_true]
      have HXr := hidIt (blk_kept2 HX.out HBr.out)
      have x0 := cell_two0 HXr.out
      have x1 := cell_two1 HXr.out
      have lx := lt_of_block HXr.out
      go_wp2_with fail
      refine (raValid_any N _ _ ps x wr (H1.out.below HBr.out) (by have := H2.out.below HBr.out; rwa [HML.out] at this ⊢) HSL.out).mono ?_
      rintro e w5 ⟨rfl, hb5⟩
      have HB5 := hidIt (HB.out.trans (Below.mono (HBr.out.trans (Below.mono hb5 HBr.out.size)) HB.out.size))
      clear hb5
      go_wp2_with fail
      go_ret
      exact ⟨ret_bool HE.out.symm, HB5.out⟩

set_option maxRecDepth 100000 in
set_option maxHeartbeats 2000000 in
theorem raDefends_any (N : Nat) (v v2 : Value) (ps : List (Int × Int)) (x : List Int) (i : Int) (w : World) (h : PairsAt w v ps) (hok : GOk (N : Int) ps) (hpl : ps.length ≤ 1000) (hs : IL w v2 x) (hsl : x.length ≤ 100000) :
    Calls Tryd.prog 30 #[.agg #[.int .i64 (N : Int), v], v2, .int .i64 i] w fun e w' => e = .returned (.bool (setB N x && (ixB i (N : Int) && dfX ps (memB x) i.toNat))) ∧ Below w.heap.size w w' := by
  have hB := bgrow w (.cells #[.int .i64 (N : Int), v] 27)
  have H1 := hidIt (h.below hB)
  have H2 := hidIt (hs.below hB)
  obtain ⟨a, c, rfl, -⟩ := h.form
  obtain ⟨a2, c2, rfl, k2⟩ := (hs.below hB).form
  have HX := hidIt (heap_alloc_new w (.cells #[.int .i64 (N : Int), .slice a ps.length c] 27))
  have HB := hidIt hB
  have HVL := hidIt (vL_of hok)
  have HPL := hidIt hpl
  have HSL := hidIt hsl
  have HOK := hidIt hok
  obtain ⟨R, hR⟩ : ∃ R, R = (setB N x && (ixB i (N : Int) && dfX ps (memB x) i.toNat)) := ⟨_, rfl⟩
  have HM := hidIt hR
  rw [← hR]
  clear h hs hB k2 hok hpl hR
  go_enter Tryd.func30, Tryd.ntmps30
  go_upto_region 1 with (fail)
  generalize (w.alloc (.cells #[.int .i64 (N : Int), .slice a ps.length c] 27)) = w1 at *
  obtain ⟨x0, x1⟩ := And.intro (cell_two0 HX.out) (cell_two1 HX.out)
  have lx := lt_of_block HX.out
  generalize w.heap.size = P at HX x0 x1 lx ⊢
  have HC := hidIt (raValid_any N _ _ ps x w1 H1.out H2.out HSL.out)
  cases hset : setB N x
  · rw [hset] at HC HM
    clear hset
    go_wp2_with fail
    refine HC.out.mono ?_
    rintro e w2 ⟨rfl, hb2⟩
    have HB2 := hidIt (HB.out.trans (Below.mono hb2 HB.out.size))
    clear hb2
    go_wp2_with fail
    go_ret
    exact ⟨ret_bool (by have := HM.out; simpa using this.symm), HB2.out⟩
  rw [hset, Bool.true_and] at HM
  rw [hset] at HC
  clear hset
  cases hix : ixB i (N : Int)
  · rw [hix] at HM
    rcases ixB_false hix with h0 | h0
    · clear hix
      go_wp2_with fail
      refine HC.out.mono ?_
      rintro e w2 ⟨rfl, hb2⟩
      have HB2 := hidIt (HB.out.trans (Below.mono hb2 HB.out.size))
      clear hb2
      go_wp2_with fail
      go_ret
      exact ⟨ret_bool (by have := HM.out; simpa using this.symm), HB2.out⟩
    · clear hix
      have h1 : ¬ i < 0 := by omega
      go_wp2_with fail
      refine HC.out.mono ?_
      rintro e w2 ⟨rfl, hb2⟩
      have HB2 := hidIt (HB.out.trans (Below.mono hb2 HB.out.size))
      have HX2 := hidIt (blk_kept2 HX.out hb2)
      clear hb2 x0 x1 lx
      obtain ⟨x0, x1⟩ := And.intro (cell_two0 HX2.out) (cell_two1 HX2.out)
      have lx := lt_of_block HX2.out
      go_wp2_with fail
      go_ret
      exact ⟨ret_bool (by have := HM.out; simpa using this.symm), HB2.out⟩
  rw [hix, Bool.true_and] at HM
  obtain ⟨hi0, hi1⟩ := ixB_true hix
  obtain ⟨I, rfl⟩ : ∃ I : Nat, i = (I : Int) := ⟨i.toNat, by omega⟩
  rw [Int.toNat_natCast, df_list HOK.out.ix] at HM
  have hn0 : ¬ (I : Int) < 0 := by omega
  have hn1 : ¬ (N : Int) ≤ (I : Int) := by omega
  clear hix
  go_wp2_with fail
  refine HC.out.mono ?_
  rintro e w2 ⟨rfl, hb2⟩
  have HB2 := hidIt (HB.out.trans (Below.mono hb2 HB.out.size))
  have HX2 := hidIt (blk_kept2 HX.out hb2)
  have H12 := hidIt (H1.out.below hb2)
  have H22 := hidIt (H2.out.below hb2)
  clear hb2 x0 x1 lx HX H1 H2 HB HC
  obtain ⟨x0, x1⟩ := And.intro (cell_two0 HX2.out) (cell_two1 HX2.out)
  have lx := lt_of_block HX2.out
  go_wp2_with fail
  refine (rgAttackers_any (N : Int) _ ps (I : Int) w2 H12.out HPL.out).mono ?_
  rw [HVL.out]
  rintro e w3 ⟨v3, rfl, hi3, hb3⟩
  have HBI : Hid (∀ z ∈ inL ps (I : Int), 0 ≤ z) := fun z hz => by
    unfold inL at hz
    obtain ⟨p, hp, rfl⟩ := List.mem_map.1 hz
    exact (HOK.out.ix p (List.mem_filter.1 hp).1).1.1
  have HKL : Hid ((inL ps (I : Int)).length ≤ 1000) := by
    show _ ≤ _
    unfold inL
    rw [List.length_map]
    exact Nat.le_trans (List.length_filter_le _ _) HPL.out
  generalize inL ps (I : Int) = ks at *
  generalize hg : (fun z : Int => !(hitX ps (memB x) z.toNat)) = g at HM
  have HG : Hid (∀ z : Int, hitX ps (memB x) z.toNat = !(g z)) := fun z => by rw [← hg, Bool.not_not]
  obtain ⟨ka, kc, rfl, hick⟩ := hi3.ic
  have HK := hidIt hick
  have HB3 := hidIt (HB2.out.trans (Below.mono hb3 HB2.out.size))
  have HX3 := hidIt (blk_kept2 HX2.out hb3)
  have H13 := hidIt (H12.out.below hb3)
  have H23 := hidIt (H22.out.below hb3)
  obtain ⟨A, hA⟩ : ∃ A, A = ks.length := ⟨_, rfl⟩
  have HA := hidIt hA
  rw [← hA] at HKL ⊢
  have hA1 : A ≤ 1000 := HKL.out
  clear hA hi3 hick hb3 x0 x1 lx HB2 HX2 H12 H22 hg
  go_wp2_with fail
  go_loopw [8, 27] (fun _ i wr => ∃ k : Nat, k ≤ A ∧ i = .int .i64 k ∧ Hid (Below w3.heap.size w3 wr) ∧ Hid ((ks.take k).any g = false)) (fun _ i _ => A - (intOf i).toNat)
  case atStart => exact ⟨0, Nat.zero_le _, (by first | rfl | trivial), Below.refl _ _, (rfl : (([] : List Int).any _) = false)⟩
  case round =>
    obtain ⟨k, hk, rfl, HBr, HT⟩ := hrel
    have hkI0 : (0 : Int) ≤ (k : Int) := by omega
    by_cases hlt : k < A
    · have hkI : (k : Int) < (A : Int) := by omega
      have h1x : k < ks.length := by have := HA.out; omega
      have HXr := hidIt (blk_kept2 HX3.out HBr.out)
      obtain ⟨b1, o1, rfl, l1, hc1⟩ := (HK.out.go HBr.out).at_ h1x
      have p0 := hc1 k h1x
      have HST := hidIt (any_step13 h1x g)
      have HTL : Hid (g ks[k] = true → ks.any g = true) := fun h => List.any_eq_true.2 ⟨_, List.getElem_mem h1x, h⟩
      have hz0 := HBI.out _ (List.getElem_mem h1x)
      generalize ks[k] = z at *
      clear hc1 h1x
      obtain ⟨z, rfl⟩ : ∃ z' : Nat, z = (z' : Int) := ⟨z.toNat, by omega⟩
      have x0 := cell_two0 HXr.out
      have x1 := cell_two1 HXr.out
      have lx := lt_of_block HXr.out
      have HC := hidIt (raHit_any N z _ _ ps x wr (H13.out.below HBr.out) HOK.out (by have := HPL.out; omega) (H23.out.below HBr.out) HSL.out)
      have HGz := HG.out (z : Int)
      rw [Int.toNat_natCast] at HGz
      rw [HGz] at HC
      clear HGz
      cases hgz : g (z : Int)
      · have HE : Hid ((ks.take (k + 1)).any g = false) := by show _ = _; rw [HST.out, HT.out, hgz]; rfl
        rw [hgz] at HC
        clear hgz
        go_wp2_with fail
        refine HC.out.mono ?_
        rintro e w5 ⟨rfl, hb5⟩
        have HB5 := hidIt (HBr.out.trans (Below.mono hb5 HBr.out.size))
        clear hb5 x0 x1 lx p0 l1
        go_wp2_with fail
        go_roundw
        case rel => exact ⟨k + 1, by omega, by go_num, HB5.out, HE.out⟩
        case measure => simp [intOf]; omega
      · have HE : Hid (R = false) := by show _ = _; rw [HM.out, HTL.out hgz]; rfl
        rw [hgz] at HC
        clear hgz
        go_wp2_with fail
        refine HC.out.mono ?_
        rintro e w5 ⟨rfl, hb5⟩
        have HB5 := hidIt (HB3.out.trans (Below.mono (HBr.out.trans (Below.mono hb5 HBr.out.size)) HB3.out.size))
        clear hb5 x0 x1 lx p0 l1
        go_wp2_with fail
        go_ret
        exact ⟨ret_bool HE.out.symm, HB5.out⟩
    · have hkI : ¬ (k : Int) < (A : Int) := by omega
      have HE : Hid (R = true) := by
        have := HT.out
        rw [List.take_of_length_le (by have := HA.out; omega)] at this
        show _ = _
        rw [HM.out, this]
        rfl
      have HB5 := hidIt (HB3.out.trans (Below.mono HBr.out HB3.out.size))
      go_wp2_with fail
      go_ret
      exact ⟨ret_bool HE.out.symm, HB5.out⟩
end Go.Proofs.YtihmdnbeonefcaaDoor
