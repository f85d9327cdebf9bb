/- The reference's functions on sets: hit, ConflictFree, Defends. The reference's Step, inside, Admissible, IsComplete, Range; keep's Inside. The reference's Admissible, IsComplete, Range, IsStable. -/
import Derived.Test.YtihmdnbeonefcaaDoorZ4N1F
import Derived.Test.YtihmdnbeonefcaaDoorG0I
import Derived.Test.YtihmdnbeonefcaaDoorG0H
import Derived.Test.YtihmdnbeonefcaaDoorRelN
import Derived.Test.YtihmdnbeonefcaaDoorZ4B
import Derived.Test.YtihmdnbeonefcaaDoorRelS

namespace Go.Proofs.YtihmdnbeonefcaaDoor
set_option linter.unusedVariables false
set_option linter.unusedSimpArgs false
open Go Go.RowKit Go.Sort

theorem any_step13 {xs : List Int} {k : Nat} (h : k < xs.length) (f : Int → Bool) : (xs.take (k + 1)).any f = ((xs.take k).any f || f xs[k]) := by
  rw [List.take_succ_eq_append_getElem h, List.any_append]
  simp
theorem hit_list {N : Nat} {ps : List (Int × Int)} (hix : ∀ p ∈ ps, (0 ≤ p.1 ∧ p.1 < (N : Int)) ∧ (0 ≤ p.2 ∧ p.2 < (N : Int))) (x : List Int) (i : Nat) : hitX ps (memB x) i = x.any fun z => decide ((z, (i : Int)) ∈ ps) := by
  rw [Bool.eq_iff_iff, hitX_iff hix, List.any_eq_true]
  constructor
  · rintro ⟨k, hk, hx⟩
    exact ⟨(k : Int), of_decide_eq_true hx, decide_eq_true hk⟩
  · rintro ⟨z, hz, hp⟩
    have hp := of_decide_eq_true hp
    have := hix _ hp
    simp only at this
    obtain ⟨k, rfl⟩ : ∃ k : Nat, z = (k : Int) := ⟨z.toNat, by omega⟩
    exact ⟨k, hp, decide_eq_true hz⟩
theorem cf_list {N : Nat} {ps : List (Int × Int)} (hix : ∀ p ∈ ps, (0 ≤ p.1 ∧ p.1 < (N : Int)) ∧ (0 ≤ p.2 ∧ p.2 < (N : Int))) (x : List Int) : cfX ps (memB x) = !(x.any fun a => x.any fun b => decide ((a, b) ∈ ps)) := by
  rw [Bool.eq_iff_iff, cfX_iff hix, Bool.not_eq_true', List.any_eq_false]
  constructor
  · intro h a ha hb
    obtain ⟨b, hb, hp⟩ := List.any_eq_true.1 hb
    have hp := of_decide_eq_true hp
    have := hix _ hp
    simp only at this
    obtain ⟨k, rfl⟩ : ∃ k : Nat, a = (k : Int) := ⟨a.toNat, by omega⟩
    obtain ⟨i, rfl⟩ : ∃ i : Nat, b = (i : Int) := ⟨b.toNat, by omega⟩
    exact h k i hp (decide_eq_true ha) (decide_eq_true hb)
  · intro h k i hk h1 h2
    exact h _ (of_decide_eq_true h1) (List.any_eq_true.2 ⟨_, of_decide_eq_true h2, decide_eq_true hk⟩)
theorem df_list {N : Nat} {ps : List (Int × Int)} (hix : ∀ p ∈ ps, (0 ≤ p.1 ∧ p.1 < (N : Int)) ∧ (0 ≤ p.2 ∧ p.2 < (N : Int))) (X : Nat → Bool) (i : Nat) : dfX ps X i = !((inL ps (i : Int)).any fun z => !(hitX ps X z.toNat)) := by
  rw [Bool.eq_iff_iff, dfX_iff hix, Bool.not_eq_true', List.any_eq_false]
  unfold inL
  constructor
  · intro h z hz
    rw [List.mem_map] at hz
    obtain ⟨p, hp, rfl⟩ := hz
    obtain ⟨hp, he⟩ := List.mem_filter.1 hp
    have hr := hix p hp
    have he := beq_iff_eq.1 he
    have e2 : ((p.1.toNat : Int), (i : Int)) = p := Prod.ext (by simp only; omega) he.symm
    rw [(hitX_iff hix).2 (h p.1.toNat (by unfold At; rw [e2]; exact hp))]
    decide
  · intro h k hk
    have := h (k : Int) (List.mem_map.2 ⟨_, List.mem_filter.2 ⟨hk, beq_iff_eq.2 rfl⟩, rfl⟩)
    rw [Int.toNat_natCast] at this
    exact (hitX_iff hix).1 (by simpa using this)

set_option maxRecDepth 100000 in
set_option maxHeartbeats 2000000 in
theorem raHit_any (N i : Nat) (v v2 : Value) (ps : List (Int × Int)) (x : List Int) (w : World) (h : PairsAt w v ps) (hok : GOk (N : Int) ps) (hpl : ps.length ≤ 100000) (hs : IL w v2 x) (hsl : x.length ≤ 100000) :
    Calls Tryd.prog 57 #[.agg #[.int .i64 (N : Int), v], v2, .int .i64 (i : Int)] w fun e w' => e = .returned (.bool (hitX ps (memB x) i)) ∧ Below w.heap.size w w' := by
  have hB := bgrow w (.cells #[.int .i64 (N : Int), v] 27)
  have H1 := hidIt (h.below hB)
  obtain ⟨a, c, rfl, -⟩ := h.form
  obtain ⟨a2, c2, rfl, k2⟩ := (hs.below hB).ic
  have K2 := hidIt k2
  have HX := hidIt (heap_alloc_new w (.cells #[.int .i64 (N : Int), .slice a ps.length c] 27))
  have HB := hidIt hB
  have HM := hidIt (hit_list hok.ix x i)
  have HVL := hidIt (vL_of hok)
  have HPL := hidIt hpl
  generalize hitX ps (memB x) i = R at *
  generalize hf : (fun z : Int => decide ((z, (i : Int)) ∈ ps)) = f at HM
  have HFF : Hid (∀ z : Int, decide ((z, (i : Int)) ∈ ps) = f z) := fun z => by rw [← hf]
  clear h hs hB k2 hok hpl hf
  go_enter Tryd.func57, Tryd.ntmps57
  go_upto_region 1 with (fail)
  generalize (w.alloc (.cells #[.int .i64 (N : Int), .slice a ps.length c] 27)) = w1 at *
  generalize w.heap.size = P at HX ⊢
  obtain ⟨M, hM⟩ : ∃ M, M = x.length := ⟨_, rfl⟩
  have HML := hidIt hM
  rw [← hM] at hsl ⊢
  clear hM
  go_wp2_with fail
  go_loopw [7] (fun i wr => ∃ k : Nat, k ≤ M ∧ i = .int .i64 k ∧ Hid (Below w1.heap.size w1 wr) ∧ Hid ((x.take k).any f = false)) (fun i _ => M - (intOf i).toNat)
  case atStart => exact ⟨0, Nat.zero_le _, (by first | rfl | trivial), Below.refl _ _, (rfl : (([] : List Int).any f) = false)⟩
  case round =>
    obtain ⟨k, hk, rfl, HBr, HT⟩ := hrel
    have hkI0 : (0 : Int) ≤ (k : Int) := by omega
    by_cases hlt : k < M
    · have hkI : (k : Int) < (M : Int) := by omega
      have h1x : k < x.length := by have := HML.out; omega
      have HXr := hidIt (blk_kept2 HX.out HBr.out)
      obtain ⟨b1, o1, rfl, l1, hc1⟩ := (K2.out.go HBr.out).at_ h1x
      have p0 := hc1 k h1x
      have HST := hidIt (any_step13 h1x f)
      have HTL : Hid (x.any f = true ∨ f x[k] = false) := by
        cases hfz : f x[k]
        · exact .inr rfl
        · exact .inl (List.any_eq_true.2 ⟨_, List.getElem_mem h1x, hfz⟩)
      generalize x[k] = z at *
      clear hc1 h1x
      have x0 := cell_two0 HXr.out
      have x1 := cell_two1 HXr.out
      have lx := lt_of_block HXr.out
      have X0 := fun y => Ext.cell x0 y
      have X1 := fun y => Ext.cell x1 y
      have P0 := fun y => Ext.cell p0 y
      have LX := fun y : In (Ext wr) => Nat.lt_of_lt_of_le lx (Below.size y.h)
      have LP := fun y : In (Ext wr) => Nat.lt_of_lt_of_le l1 (Below.size y.h)
      have HC : Hid (∀ wx : World, Ext wr wx → Calls Tryd.prog 50 #[.agg #[.int .i64 (N : Int), .slice a ps.length c], .int .i64 z, .int .i64 (i : Int)] wx fun e w' => e = .returned (.bool (f z)) ∧ Below wx.heap.size wx w') := fun wx hC => by
        have := rgHas_any (N : Int) _ ps z (i : Int) wx ((H1.out.below HBr.out).below hC) (by have := HPL.out; omega)
        rw [HVL.out, HFF.out z] at this
        exact this
      cases hfz : f z
      · have HE : Hid ((x.take (k + 1)).any f = false) := by show _ = _; rw [HST.out, HT.out, hfz]; rfl
        rw [hfz] at HC
        clear hfz
        go_wp2_with fail
        haveI := Ext.nonempty wr
        refine wp_region_in (Ext wr) (by kernel_rfl) (by kernel_rfl) (Ext.start wr) ?_
        repeat (go_big_quiet_step ((go_at_call 50; refine Ext.call (HC.out _ (In.h _)))))
        refine wpQuiet_nil ?_
        rintro w5 ⟨⟨_, h5⟩, rfl⟩
        have HB5 := hidIt (HBr.out.trans (Below.mono h5 HBr.out.size))
        clear h5 X0 X1 P0 LX LP x0 x1 lx p0 l1
        go_wp2_with fail
        go_roundw
        case rel => exact ⟨k + 1, by omega, by go_num, HB5.out, HE.out⟩
        case measure => simp [intOf]; omega
      · have HE : Hid (R = true) := by
          show _ = _
          rw [HM.out]
          rcases HTL.out with h | h
          · exact h
          · rw [hfz] at h; cases h
        rw [hfz] at HC
        clear hfz
        go_wp2_with fail
        haveI := Ext.nonempty wr
        refine wp_region_in (Ext wr) (by kernel_rfl) (by kernel_rfl) (Ext.start wr) ?_
        repeat (go_big_quiet_step ((go_at_call 50; refine Ext.call (HC.out _ (In.h _)))))
        refine wpQuiet_nil ?_
        rintro w5 ⟨⟨_, h5⟩, rfl⟩
        have HB5 := hidIt (HB.out.trans (Below.mono (HBr.out.trans (Below.mono h5 HBr.out.size)) HB.out.size))
        clear h5 X0 X1 P0 LX LP x0 x1 lx p0 l1
        go_wp2_with fail
        go_ret
        exact ⟨ret_bool HE.out.symm, HB5.out⟩
    · have hkI : ¬ (k : Int) < (M : Int) := by omega
      have HE : Hid (R = false) := by
        have := HT.out
        rw [List.take_of_length_le (by have := HML.out; omega)] at this
        show _ = _
        rw [HM.out, this]
      have HB5 := hidIt (HB.out.trans (Below.mono HBr.out HB.out.size))
      go_wp2_with fail
      go_ret
      exact ⟨ret_bool HE.out.symm, HB5.out⟩

set_option maxRecDepth 100000 in
set_option maxHeartbeats 2000000 in
theorem raConflictFree_any (N : Nat) (v v2 : Value) (ps : List (Int × Int)) (x : List Int) (w : World) (h : PairsAt w v ps) (hok : GOk (N : Int) ps) (hpl : ps.length ≤ 100000) (hs : IL w v2 x) (hsl : x.length ≤ 100000) :
    Calls Tryd.prog 17 #[.agg #[.int .i64 (N : Int), v], v2] w fun e w' => e = .returned (.bool (setB N x && cfX ps (memB x))) ∧ Below w.heap.size w w' := by
  have hB := bgrow w (.cells #[.int .i64 (N : Int), v] 27)
  have H1 := hidIt (h.below hB)
  have H2 := hidIt (hs.below hB)
  obtain ⟨a, c, rfl, -⟩ := h.form
  obtain ⟨a2, c2, rfl, k2⟩ := (hs.below hB).ic
  have K2 := hidIt k2
  have HX := hidIt (heap_alloc_new w (.cells #[.int .i64 (N : Int), .slice a ps.length c] 27))
  have HB := hidIt hB
  have HVL := hidIt (vL_of hok)
  have HPL := hidIt hpl
  have HSL := hidIt hsl
  have HM : Hid (∀ r, (setB N x && cfX ps (memB x)) = r ↔ (setB N x && !(x.any fun a => x.any fun b => decide ((a, b) ∈ ps))) = r) := fun r => by rw [cf_list hok.ix]
  generalize (setB N x && cfX ps (memB x)) = R at *
  generalize hf : (fun a b : Int => decide ((a, b) ∈ ps)) = f
  have HM1 : Hid (R = (setB N x && !(x.any fun a => x.any (f a)))) := by
    show _ = _
    rw [← hf]
    exact ((HM.out R).1 rfl).symm
  have HFF : Hid (∀ a b : Int, decide ((a, b) ∈ ps) = f a b) := fun a b => by rw [← hf]
  clear h hs hB k2 hok hpl hf HM
  go_enter Tryd.func17, Tryd.ntmps17
  go_upto_region 1 with (fail)
  generalize (w.alloc (.cells #[.int .i64 (N : Int), .slice a ps.length c] 27)) = w1 at *
  generalize w.heap.size = P at HX ⊢
  obtain ⟨M, hM⟩ : ∃ M, M = x.length := ⟨_, rfl⟩
  have HML := hidIt hM
  rw [← hM] at hsl H2 ⊢
  clear hM
  go_wp2_with fail
  go_loopw [5, 6] (fun i _ wr => ∃ k : Nat, k ≤ M ∧ i = .int .i64 k ∧ Hid (Below w1.heap.size w1 wr) ∧ Hid ((x.take k).any (fun a => x.any (f a)) = false)) (fun i _ _ => M - (intOf i).toNat)
  case atStart => exact ⟨0, Nat.zero_le _, (by first | rfl | trivial), Below.refl _ _, (rfl : (([] : List Int).any _) = false)⟩
  case round =>
    obtain ⟨k, hk, rfl, HBr, HT⟩ := hrel
    have hkI0 : (0 : Int) ≤ (k : Int) := by omega
    by_cases hlt : k < M
    · have hkI : (k : Int) < (M : Int) := by omega
      have h1x : k < x.length := by have := HML.out; omega
      have HST := hidIt (any_step13 h1x (fun a => x.any (f a)))
      have HKX := hidIt (List.getElem_mem h1x)
      have HGE : Hid (∀ w3 : World, Below w1.heap.size w1 w3 → ∃ b o, a2 = some ⟨b, o, none⟩ ∧ b < w3.heap.size ∧ w3.cell? ⟨b, o + k, none⟩ = some (.int .i64 x[k])) := fun w3 h => by
        obtain ⟨b, o, e, l, hc⟩ := (K2.out.go h).at_ h1x
        exact ⟨b, o, e, l, hc k h1x⟩
      generalize x[k] = z at *
      clear h1x
      go_wp2_with fail
      go_loopw [6] (fun j w' => ∃ q : Nat, q ≤ M ∧ j = .int .i64 q ∧ Hid (Below w1.heap.size w1 w') ∧ Hid ((x.take q).any (f z) = false)) (fun j _ => M - (intOf j).toNat)
      case atStart => exact ⟨0, Nat.zero_le _, (by first | rfl | trivial), HBr.out, (rfl : (([] : List Int).any _) = false)⟩
      case round =>
        clear HBr
        obtain ⟨q, hq, rfl, HBr, HTq⟩ := hrel
        have hqI0 : (0 : Int) ≤ (q : Int) := by omega
        by_cases hqt : q < M
        · have hqI : (q : Int) < (M : Int) := by omega
          have h1q : q < x.length := by have := HML.out; omega
          have HXr := hidIt (blk_kept2 HX.out HBr.out)
          obtain ⟨b1, o1, rfl, l1, p0⟩ := HGE.out wr HBr.out
          have q0 : wr.cell? ⟨b1, o1 + q, none⟩ = some (.int .i64 x[q]) := by
            obtain ⟨b', o', he, -, hc⟩ := (K2.out.go HBr.out).at_ h1q
            injection he with he
            injection he with he1 he2
            subst he1 he2
            exact hc q h1q
          have HSQ := hidIt (any_step13 h1q (f z))
          have HTL : Hid (f z x[q] = true → x.any (fun a => x.any (f a)) = true) := fun h => List.any_eq_true.2 ⟨z, HKX.out, List.any_eq_true.2 ⟨_, List.getElem_mem h1q, h⟩⟩
          generalize x[q] = y at *
          clear h1q
          have x0 := cell_two0 HXr.out
          have x1 := cell_two1 HXr.out
          have lx := lt_of_block HXr.out
          have X0 := fun y => Ext.cell x0 y
          have X1 := fun y => Ext.cell x1 y
          have P0 := fun y => Ext.cell p0 y
          have Q0 := fun y => Ext.cell q0 y
          have LX := fun y : In (Ext wr) => Nat.lt_of_lt_of_le lx (Below.size y.h)
          have LP := fun y : In (Ext wr) => Nat.lt_of_lt_of_le l1 (Below.size y.h)
          have HC : Hid (∀ wx : World, Ext wr wx → Calls Tryd.prog 50 #[.agg #[.int .i64 (N : Int), .slice a ps.length c], .int .i64 z, .int .i64 y] wx fun e w' => e = .returned (.bool (f z y)) ∧ Below wx.heap.size wx w') := fun wx hC => by
            have := rgHas_any (N : Int) _ ps z y wx ((H1.out.below HBr.out).below hC) (by have := HPL.out; omega)
            rw [HVL.out, HFF.out z y] at this
            exact this
          cases hfz : f z y
          · have HE : Hid ((x.take (q + 1)).any (f z) = false) := by show _ = _; rw [HSQ.out, HTq.out, hfz]; rfl
            rw [hfz] at HC
            clear hfz
            go_wp2_with fail
            haveI := Ext.nonempty wr
            refine wp_region_in (Ext wr) (by kernel_rfl) (by kernel_rfl) (Ext.start wr) ?_
            repeat (go_big_quiet_step ((go_at_call 50; refine Ext.call (HC.out _ (In.h _)))))
            refine wpQuiet_nil ?_
            rintro w5 ⟨⟨_, h5⟩, rfl⟩
            have HB5 := hidIt (HBr.out.trans (Below.mono h5 HBr.out.size))
            clear h5 X0 X1 P0 Q0 LX LP x0 x1 lx p0 q0 l1
            go_wp2_with fail
            go_roundw
            case rel => exact ⟨q + 1, by omega, by go_num, HB5.out, HE.out⟩
            case measure => simp [intOf]; omega
          · have HE : Hid (R = false) := by
              show _ = _
              rw [HM1.out, HTL.out hfz, Bool.not_true, Bool.and_false]
            rw [hfz] at HC
            clear hfz
            go_wp2_with fail
            haveI := Ext.nonempty wr
            refine wp_region_in (Ext wr) (by kernel_rfl) (by kernel_rfl) (Ext.start wr) ?_
            repeat (go_big_quiet_step ((go_at_call 50; refine Ext.call (HC.out _ (In.h _)))))
            refine wpQuiet_nil ?_
            rintro w5 ⟨⟨_, h5⟩, rfl⟩
            have HB5 := hidIt (HB.out.trans (Below.mono (HBr.out.trans (Below.mono h5 HBr.out.size)) HB.out.size))
            clear h5 X0 X1 P0 Q0 LX LP x0 x1 lx p0 q0 l1
            go_wp2_with fail
            go_ret
            exact ⟨ret_bool HE.out.symm, HB5.out⟩
        · have hqI : ¬ (q : Int) < (M : Int) := by omega
          have HE : Hid ((x.take (k + 1)).any (fun a => x.any (f a)) = false) := by
            have := HTq.out
            rw [List.take_of_length_le (by have := HML.out; omega)] at this
            show _ = _
            rw [HST.out, HT.out, this]
            rfl
          go_wp2_with fail
          go_roundw
          case rel => exact ⟨k + 1, by omega, by go_num, HBr.out, HE.out⟩
          case measure => simp [intOf]; omega
    · have hkI : ¬ (k : Int) < (M : Int) := by omega
      have HE : Hid (R = setB N x) := by
        have := HT.out
        rw [List.take_of_length_le (by have := HML.out; omega)] at this
        show _ = _
        rw [HM1.out, this, Bool.not_false, Bool.and_true]
      have HXr := hidIt (blk_kept2 HX.out HBr.out)
      have x0 := cell_two0 HXr.out
      have x1 := cell_two1 HXr.out
      have lx := lt_of_block HXr.out
      go_wp2_with fail
      refine (raValid_any N _ _ ps x wr (H1.out.below HBr.out) (by have := H2.out.below HBr.out; rwa [HML.out] at this ⊢) HSL.out).mono ?_
      rintro e w5 ⟨rfl, hb5⟩
      have HB5 := hidIt (HB.out.trans (Below.mono (HBr.out.trans (Below.mono hb5 HBr.out.size)) HB.out.size))
      clear hb5
      go_wp2_with fail
      go_ret
      exact ⟨ret_bool HE.out.symm, HB5.out⟩

set_option maxRecDepth 100000 in
set_option maxHeartbeats 2000000 in
theorem raDefends_any (N : Nat) (v v2 : Value) (ps : List (Int × Int)) (x : List Int) (i : Int) (w : World) (h : PairsAt w v ps) (hok : GOk (N : Int) ps) (hpl : ps.length ≤ 1000) (hs : IL w v2 x) (hsl : x.length ≤ 100000) :
    Calls Tryd.prog 30 #[.agg #[.int .i64 (N : Int), v], v2, .int .i64 i] w fun e w' => e = .returned (.bool (setB N x && (ixB i (N : Int) && dfX ps (memB x) i.toNat))) ∧ Below w.heap.size w w' := by
  have hB := bgrow w (.cells #[.int .i64 (N : Int), v] 27)
  have H1 := hidIt (h.below hB)
  have H2 := hidIt (hs.below hB)
  obtain ⟨a, c, rfl, -⟩ := h.form
  obtain ⟨a2, c2, rfl, k2⟩ := (hs.below hB).form
  have HX := hidIt (heap_alloc_new w (.cells #[.int .i64 (N : Int), .slice a ps.length c] 27))
  have HB := hidIt hB
  have HVL := hidIt (vL_of hok)
  have HPL := hidIt hpl
  have HSL := hidIt hsl
  have HOK := hidIt hok
  obtain ⟨R, hR⟩ : ∃ R, R = (setB N x && (ixB i (N : Int) && dfX ps (memB x) i.toNat)) := ⟨_, rfl⟩
  have HM := hidIt hR
  rw [← hR]
  clear h hs hB k2 hok hpl hR
  go_enter Tryd.func30, Tryd.ntmps30
  go_upto_region 1 with (fail)
  generalize (w.alloc (.cells #[.int .i64 (N : Int), .slice a ps.length c] 27)) = w1 at *
  obtain ⟨x0, x1⟩ := And.intro (cell_two0 HX.out) (cell_two1 HX.out)
  have lx := lt_of_block HX.out
  generalize w.heap.size = P at HX x0 x1 lx ⊢
  have HC := hidIt (raValid_any N _ _ ps x w1 H1.out H2.out HSL.out)
  cases hset : setB N x
  · rw [hset] at HC HM
    clear hset
    go_wp2_with fail
    refine HC.out.mono ?_
    rintro e w2 ⟨rfl, hb2⟩
    have HB2 := hidIt (HB.out.trans (Below.mono hb2 HB.out.size))
    clear hb2
    go_wp2_with fail
    go_ret
    exact ⟨ret_bool (by have := HM.out; simpa using this.symm), HB2.out⟩
  rw [hset, Bool.true_and] at HM
  rw [hset] at HC
  clear hset
  cases hix : ixB i (N : Int)
  · rw [hix] at HM
    rcases ixB_false hix with h0 | h0
    · clear hix
      go_wp2_with fail
      refine HC.out.mono ?_
      rintro e w2 ⟨rfl, hb2⟩
      have HB2 := hidIt (HB.out.trans (Below.mono hb2 HB.out.size))
      clear hb2
      go_wp2_with fail
      go_ret
      exact ⟨ret_bool (by have := HM.out; simpa using this.symm), HB2.out⟩
    · clear hix
      have h1 : ¬ i < 0 := by omega
      go_wp2_with fail
      refine HC.out.mono ?_
      rintro e w2 ⟨rfl, hb2⟩
      have HB2 := hidIt (HB.out.trans (Below.mono hb2 HB.out.size))
      have HX2 := hidIt (blk_kept2 HX.out hb2)
      clear hb2 x0 x1 lx
      obtain ⟨x0, x1⟩ := And.intro (cell_two0 HX2.out) (cell_two1 HX2.out)
      have lx := lt_of_block HX2.out
      go_wp2_with fail
      go_ret
      exact ⟨ret_bool (by have := HM.out; simpa using this.symm), HB2.out⟩
  rw [hix, Bool.true_and] at HM
  obtain ⟨hi0, hi1⟩ := ixB_true hix
  obtain ⟨I, rfl⟩ : ∃ I : Nat, i = (I : Int) := ⟨i.toNat, by omega⟩
  rw [Int.toNat_natCast, df_list HOK.out.ix] at HM
  have hn0 : ¬ (I : Int) < 0 := by omega
  have hn1 : ¬ (N : Int) ≤ (I : Int) := by omega
  clear hix
  go_wp2_with fail
  refine HC.out.mono ?_
  rintro e w2 ⟨rfl, hb2⟩
  have HB2 := hidIt (HB.out.trans (Below.mono hb2 HB.out.size))
  have HX2 := hidIt (blk_kept2 HX.out hb2)
  have H12 := hidIt (H1.out.below hb2)
  have H22 := hidIt (H2.out.below hb2)
  clear hb2 x0 x1 lx HX H1 H2 HB HC
  obtain ⟨x0, x1⟩ := And.intro (cell_two0 HX2.out) (cell_two1 HX2.out)
  have lx := lt_of_block HX2.out
  go_wp2_with fail
  refine (rgAttackers_any (N : Int) _ ps (I : Int) w2 H12.out HPL.out).mono ?_
  rw [HVL.out]
  rintro e w3 ⟨v3, rfl, hi3, hb3⟩
  have HBI : Hid (∀ z ∈ inL ps (I : Int), 0 ≤ z) := fun z hz => by
    unfold inL at hz
    obtain ⟨p, hp, rfl⟩ := List.mem_map.1 hz
    exact (HOK.out.ix p (List.mem_filter.1 hp).1).1.1
  have HKL : Hid ((inL ps (I : Int)).length ≤ 1000) := by
    show _ ≤ _
    unfold inL
    rw [List.length_map]
    exact Nat.le_trans (List.length_filter_le _ _) HPL.out
  generalize inL ps (I : Int) = ks at *
  generalize hg : (fun z : Int => !(hitX ps (memB x) z.toNat)) = g at HM
  have HG : Hid (∀ z : Int, hitX ps (memB x) z.toNat = !(g z)) := fun z => by rw [← hg, Bool.not_not]
  obtain ⟨ka, kc, rfl, hick⟩ := hi3.ic
  have HK := hidIt hick
  have HB3 := hidIt (HB2.out.trans (Below.mono hb3 HB2.out.size))
  have HX3 := hidIt (blk_kept2 HX2.out hb3)
  have H13 := hidIt (H12.out.below hb3)
  have H23 := hidIt (H22.out.below hb3)
  obtain ⟨A, hA⟩ : ∃ A, A = ks.length := ⟨_, rfl⟩
  have HA := hidIt hA
  rw [← hA] at HKL ⊢
  have hA1 : A ≤ 1000 := HKL.out
  clear hA hi3 hick hb3 x0 x1 lx HB2 HX2 H12 H22 hg
  go_wp2_with fail
  go_loopw [8, 27] (fun _ i wr => ∃ k : Nat, k ≤ A ∧ i = .int .i64 k ∧ Hid (Below w3.heap.size w3 wr) ∧ Hid ((ks.take k).any g = false)) (fun _ i _ => A - (intOf i).toNat)
  case atStart => exact ⟨0, Nat.zero_le _, (by first | rfl | trivial), Below.refl _ _, (rfl : (([] : List Int).any _) = false)⟩
  case round =>
    obtain ⟨k, hk, rfl, HBr, HT⟩ := hrel
    have hkI0 : (0 : Int) ≤ (k : Int) := by omega
    by_cases hlt : k < A
    · have hkI : (k : Int) < (A : Int) := by omega
      have h1x : k < ks.length := by have := HA.out; omega
      have HXr := hidIt (blk_kept2 HX3.out HBr.out)
      obtain ⟨b1, o1, rfl, l1, hc1⟩ := (HK.out.go HBr.out).at_ h1x
      have p0 := hc1 k h1x
      have HST := hidIt (any_step13 h1x g)
      have HTL : Hid (g ks[k] = true → ks.any g = true) := fun h => List.any_eq_true.2 ⟨_, List.getElem_mem h1x, h⟩
      have hz0 := HBI.out _ (List.getElem_mem h1x)
      generalize ks[k] = z at *
      clear hc1 h1x
      obtain ⟨z, rfl⟩ : ∃ z' : Nat, z = (z' : Int) := ⟨z.toNat, by omega⟩
      have x0 := cell_two0 HXr.out
      have x1 := cell_two1 HXr.out
      have lx := lt_of_block HXr.out
      have HC := hidIt (raHit_any N z _ _ ps x wr (H13.out.below HBr.out) HOK.out (by have := HPL.out; omega) (H23.out.below HBr.out) HSL.out)
      have HGz := HG.out (z : Int)
      rw [Int.toNat_natCast] at HGz
      rw [HGz] at HC
      clear HGz
      cases hgz : g (z : Int)
      · have HE : Hid ((ks.take (k + 1)).any g = false) := by show _ = _; rw [HST.out, HT.out, hgz]; rfl
        rw [hgz] at HC
        clear hgz
        go_wp2_with fail
        refine HC.out.mono ?_
        rintro e w5 ⟨rfl, hb5⟩
        have HB5 := hidIt (HBr.out.trans (Below.mono hb5 HBr.out.size))
        clear hb5 x0 x1 lx p0 l1
        go_wp2_with fail
        go_roundw
        case rel => exact ⟨k + 1, by omega, by go_num, HB5.out, HE.out⟩
        case measure => simp [intOf]; omega
      · have HE : Hid (R = false) := by show _ = _; rw [HM.out, HTL.out hgz]; rfl
        rw [hgz] at HC
        clear hgz
        go_wp2_with fail
        refine HC.out.mono ?_
        rintro e w5 ⟨rfl, hb5⟩
        have HB5 := hidIt (HB3.out.trans (Below.mono (HBr.out.trans (Below.mono hb5 HBr.out.size)) HB3.out.size))
        clear hb5 x0 x1 lx p0 l1
        go_wp2_with fail
        go_ret
        exact ⟨ret_bool HE.out.symm, HB5.out⟩
    · have hkI : ¬ (k : Int) < (A : Int) := by omega
      have HE : Hid (R = true) := by
        have := HT.out
        rw [List.take_of_length_le (by have := HA.out; omega)] at this
        show _ = _
        rw [HM.out, this]
        rfl
      have HB5 := hidIt (HB3.out.trans (Below.mono HBr.out HB3.out.size))
      go_wp2_with fail
      go_ret
      exact ⟨ret_bool HE.out.symm, HB5.out⟩
end Go.Proofs.YtihmdnbeonefcaaDoor

namespace Go.Proofs.YtihmdnbeonefcaaDoor
set_option linter.unusedVariables false
set_option linter.unusedSimpArgs false
open Go Go.RowKit Go.Sort

/-- All elements of the one are elements of the other. -/
def subL (xs ys : List Int) : Bool := !(xs.any fun z => !decide (z ∈ ys))
theorem subL_iff {xs ys : List Int} : subL xs ys = true ↔ ∀ z ∈ xs, z ∈ ys := by
  unfold subL
  rw [Bool.not_eq_true', List.any_eq_false]
  constructor
  · intro h z hz
    have := h z hz
    simpa using this
  · intro h z hz
    simp [h z hz]
theorem subL_set {N : Nat} {X Y : Nat → Bool} : subL (setL N X) (setL N Y) = subX N X Y := by
  rw [Bool.eq_iff_iff, subL_iff, subX_iff]
  constructor
  · intro h i hi hx
    obtain ⟨j, h1, h2, h3⟩ := mem_setL.1 (h (i : Int) (mem_setL.2 ⟨i, hi, hx, rfl⟩))
    obtain rfl : i = j := Int.ofNat.inj h3
    exact h2
  · intro h z hz
    obtain ⟨i, h1, h2, rfl⟩ := mem_setL.1 hz
    exact mem_setL.2 ⟨i, h1, h i h1 h2, rfl⟩

set_option maxRecDepth 100000 in
set_option maxHeartbeats 1000000 in
theorem kInside_any (v1 v2 : Value) (xs ys : List Int) (w : World) (h1 : IL w v1 xs) (h2 : IL w v2 ys) (hn : xs.length ≤ 100000) (hm : ys.length ≤ 100000) :
    Calls Tryd.prog 38 #[v1, v2] w fun e w' => e = .returned (.bool (subL xs ys)) ∧ w' = w := by
  have H2 := hidIt h2
  have HMN := hidIt hm
  obtain ⟨a1, c1, rfl, k1⟩ := h1.ic
  have K1 := hidIt k1
  obtain ⟨a2, c2, rfl, -⟩ := h2.form
  have HR : Hid (subL xs ys = !(xs.any fun z => !decide (z ∈ ys))) := (rfl : _ = _)
  generalize subL xs ys = R at *
  generalize hg : (fun z : Int => !decide (z ∈ ys)) = g at HR
  have HG : Hid (∀ z : Int, decide (z ∈ ys) = !(g z)) := fun z => by rw [← hg, Bool.not_not]
  clear h1 h2 k1 hg hm
  obtain ⟨M, hM⟩ : ∃ M, M = xs.length := ⟨_, rfl⟩
  have HX := hidIt hM
  rw [← hM] at hn ⊢
  clear hM
  go_enter Tryd.func38, Tryd.ntmps38
  go_wp2_with fail
  go_loopw [5, 8] (fun _ i wr => ∃ k : Nat, k ≤ M ∧ i = .int .i64 k ∧ wr = w ∧ Hid ((xs.take k).any g = false)) (fun _ i _ => M - (intOf i).toNat)
  case atStart => exact ⟨0, Nat.zero_le _, (by first | rfl | trivial), (by first | rfl | trivial), (rfl : (([] : List Int).any _) = false)⟩
  case round =>
    obtain ⟨k, hk, rfl, rfl, HT⟩ := hrel
    have hkI0 : (0 : Int) ≤ (k : Int) := by omega
    by_cases hlt : k < M
    · have hkI : (k : Int) < (M : Int) := by omega
      have h1x : k < xs.length := by have := HX.out; omega
      obtain ⟨b1, o1, rfl, l1, hc1⟩ := K1.out.at_ h1x
      have p0 := hc1 k h1x
      have HST := hidIt (any_step13 h1x g)
      have HTL : Hid (g xs[k] = true → xs.any g = true) := fun h => List.any_eq_true.2 ⟨_, List.getElem_mem h1x, h⟩
      generalize xs[k] = z at *
      clear hc1 h1x
      have HC := hidIt (kIn_any _ ys z wr H2.out (by have := HMN.out; omega))
      rw [HG.out z] at HC
      cases hgz : g z
      · have HE : Hid ((xs.take (k + 1)).any g = false) := by show _ = _; rw [HST.out, HT.out, hgz]; rfl
        rw [hgz] at HC
        clear hgz
        go_wp2_with fail
        refine HC.out.mono ?_
        rintro e w5 ⟨rfl, rfl⟩
        go_wp2_with fail
        go_roundw
        case rel => exact ⟨k + 1, by omega, by go_num, (by first | rfl | trivial), HE.out⟩
        case measure => simp [intOf]; omega
      · have HE : Hid (R = false) := by show _ = _; rw [HR.out, HTL.out hgz]; rfl
        rw [hgz] at HC
        clear hgz
        go_wp2_with fail
        refine HC.out.mono ?_
        rintro e w5 ⟨rfl, rfl⟩
        go_wp2_with fail
        go_ret
        exact ⟨ret_bool HE.out.symm, rfl⟩
    · have hkI : ¬ (k : Int) < (M : Int) := by omega
      have HE : Hid (R = true) := by
        have := HT.out
        rw [List.take_of_length_le (by have := HX.out; omega)] at this
        show _ = _
        rw [HR.out, this]
        rfl
      go_wp2_with fail
      go_ret
      exact ⟨ret_bool HE.out.symm, rfl⟩

set_option maxRecDepth 100000 in
set_option maxHeartbeats 1000000 in
theorem raInside_any (v1 v2 : Value) (xs ys : List Int) (w : World) (h1 : IL w v1 xs) (h2 : IL w v2 ys) (hn : xs.length ≤ 100000) (hm : ys.length ≤ 100000) :
    Calls Tryd.prog 52 #[v1, v2] w fun e w' => e = .returned (.bool (subL xs ys)) ∧ w' = w := by
  have H2 := hidIt h2
  have HMN := hidIt hm
  obtain ⟨a1, c1, rfl, k1⟩ := h1.ic
  have K1 := hidIt k1
  obtain ⟨a2, c2, rfl, -⟩ := h2.form
  have HR : Hid (subL xs ys = !(xs.any fun z => !decide (z ∈ ys))) := (rfl : _ = _)
  generalize subL xs ys = R at *
  generalize hg : (fun z : Int => !decide (z ∈ ys)) = g at HR
  have HG : Hid (∀ z : Int, decide (z ∈ ys) = !(g z)) := fun z => by rw [← hg, Bool.not_not]
  clear h1 h2 k1 hg hm
  obtain ⟨M, hM⟩ : ∃ M, M = xs.length := ⟨_, rfl⟩
  have HX := hidIt hM
  rw [← hM] at hn ⊢
  clear hM
  go_enter Tryd.func52, Tryd.ntmps52
  go_wp2_with fail
  go_loopw [5] (fun i wr => ∃ k : Nat, k ≤ M ∧ i = .int .i64 k ∧ wr = w ∧ Hid ((xs.take k).any g = false)) (fun i _ => M - (intOf i).toNat)
  case atStart => exact ⟨0, Nat.zero_le _, (by first | rfl | trivial), (by first | rfl | trivial), (rfl : (([] : List Int).any _) = false)⟩
  case round =>
    obtain ⟨k, hk, rfl, rfl, HT⟩ := hrel
    have hkI0 : (0 : Int) ≤ (k : Int) := by omega
    by_cases hlt : k < M
    · have hkI : (k : Int) < (M : Int) := by omega
      have h1x : k < xs.length := by have := HX.out; omega
      obtain ⟨b1, o1, rfl, l1, hc1⟩ := K1.out.at_ h1x
      have p0 := hc1 k h1x
      have HST := hidIt (any_step13 h1x g)
      have HTL : Hid (g xs[k] = true → xs.any g = true) := fun h => List.any_eq_true.2 ⟨_, List.getElem_mem h1x, h⟩
      generalize xs[k] = z at *
      clear hc1 h1x
      have HC := hidIt (rlIn_any _ ys z wr H2.out (by have := HMN.out; omega))
      rw [HG.out z] at HC
      cases hgz : g z
      · have HE : Hid ((xs.take (k + 1)).any g = false) := by show _ = _; rw [HST.out, HT.out, hgz]; rfl
        rw [hgz] at HC
        clear hgz
        go_wp2_with fail
        refine HC.out.mono ?_
        rintro e w5 ⟨rfl, rfl⟩
        go_wp2_with fail
        go_roundw
        case rel => exact ⟨k + 1, by omega, by go_num, (by first | rfl | trivial), HE.out⟩
        case measure => simp [intOf]; omega
      · have HE : Hid (R = false) := by show _ = _; rw [HR.out, HTL.out hgz]; rfl
        rw [hgz] at HC
        clear hgz
        go_wp2_with fail
        refine HC.out.mono ?_
        rintro e w5 ⟨rfl, rfl⟩
        go_wp2_with fail
        go_ret
        exact ⟨ret_bool HE.out.symm, rfl⟩
    · have hkI : ¬ (k : Int) < (M : Int) := by omega
      have HE : Hid (R = true) := by
        have := HT.out
        rw [List.take_of_length_le (by have := HX.out; omega)] at this
        show _ = _
        rw [HR.out, this]
        rfl
      go_wp2_with fail
      go_ret
      exact ⟨ret_bool HE.out.symm, rfl⟩

/-- The nodes below k that are in the set. -/
def setTo (X : Nat → Bool) (k : Nat) : List Nat := (List.range k).filter X
theorem setTo_step (X : Nat → Bool) (k : Nat) : setTo X (k + 1) = setTo X k ++ if X k = true then [k] else [] := by
  unfold setTo
  rw [List.range_succ, List.filter_append]
  congr 1
  cases h : X k <;> simp [h]
theorem setTo_len (X : Nat → Bool) (k : Nat) : (setTo X k).length ≤ k := by
  unfold setTo
  exact Nat.le_trans (List.length_filter_le _ _) (by rw [List.length_range]; exact Nat.le_refl _)
def stepX (N : Nat) (ps : List (Int × Int)) (x : List Int) (i : Nat) : Bool := setB N x && dfX ps (memB x) i
theorem stepX_list (N : Nat) (ps : List (Int × Int)) (x : List Int) : ints (setTo (stepX N ps x) N) = stepL N ps x := by
  unfold stepL
  cases h : setB N x
  · rw [if_neg (by decide)]
    have : setTo (stepX N ps x) N = [] := by
      unfold setTo
      rw [List.filter_eq_nil_iff]
      intro i _
      unfold stepX
      rw [h]
      simp
    rw [this]; rfl
  · rw [if_pos rfl]
    show setL N _ = _
    exact setL_congr fun i _ => by unfold stepX; rw [h]; rfl

set_option maxRecDepth 100000 in
set_option maxHeartbeats 2000000 in
theorem raStep_any (N : Nat) (v v2 : Value) (ps : List (Int × Int)) (x : List Int) (w : World) (h : PairsAt w v ps) (hok : GOk (N : Int) ps) (hpl : ps.length ≤ 1000) (hs : IL w v2 x) (hsl : x.length ≤ 100000) :
    Calls Tryd.prog 26 #[.agg #[.int .i64 (N : Int), v], v2] w fun e w' => ∃ (a : Option Addr) (c : Nat), e = .returned (.slice a (stepL N ps x).length c) ∧ OwnI w' w.heap.size (.slice a (stepL N ps x).length c) (stepL N ps x) ∧ Below w.heap.size w w' := by
  have hB := bgrow w (.cells #[.int .i64 (N : Int), v] 27)
  have H1 := hidIt (h.below hB)
  have H2 := hidIt (hs.below hB)
  obtain ⟨a, c, rfl, -⟩ := h.form
  obtain ⟨a2, c2, rfl, -⟩ := (hs.below hB).form
  have HX := hidIt (heap_alloc_new w (.cells #[.int .i64 (N : Int), .slice a ps.length c] 27))
  have HB := hidIt hB
  have HPL := hidIt hpl
  have HSL := hidIt hsl
  have HOK := hidIt hok
  have hN : N ≤ 40 := by have := hok.n40; omega
  have HXL := hidIt (stepX_list N ps x)
  have HSX : Hid (∀ i, i < N → (setB N x && (ixB (i : Int) (N : Int) && dfX ps (memB x) (i : Int).toNat)) = stepX N ps x i) := fun i hi => by
    have : ixB (i : Int) (N : Int) = true := by unfold ixB; simp; omega
    rw [this, Int.toNat_natCast]
    rfl
  generalize stepL N ps x = R at *
  generalize stepX N ps x = F at *
  clear h hs hB hok hpl hsl
  go_enter Tryd.func26, Tryd.ntmps26
  go_upto_region 1 with (fail)
  generalize (w.alloc (.cells #[.int .i64 (N : Int), .slice a ps.length c] 27)) = w1 at *
  obtain ⟨P, hP⟩ : ∃ P, P = w.heap.size := ⟨_, rfl⟩
  have HP := hidIt hP
  rw [← hP] at HX ⊢
  clear hP
  have lP := lt_of_block HX.out
  go_wp2_with fail
  have HI1 : Hid (Below w1.heap.size w1 w1) := Below.refl _ _
  go_loopw [5, 6] (fun v5 i wr => ∃ (k l : Nat) (b : Option Addr) (d : Nat), k ≤ N ∧ v5 = .slice b l d ∧ i = .int .i64 k ∧ Hid (l = (setTo F k).length) ∧ Hid (OwnI wr w1.heap.size (.slice b l d) (ints (setTo F k))) ∧ Hid (Below w1.heap.size w1 wr)) (fun _ i _ => N - (intOf i).toNat)
  case atStart => exact ⟨0, 0, none, 0, Nat.zero_le _, (by first | rfl | trivial), (by first | rfl | trivial), (rfl : 0 = (setTo F 0).length), OwnI.nil _ _, Below.refl _ _⟩
  case round =>
    obtain ⟨k, l, b, d, hk, rfl, rfl, HL, HO, HBr⟩ := hrel
    have hkI0 : (0 : Int) ≤ (k : Int) := by omega
    have HXr := hidIt (blk_kept2 HX.out HBr.out)
    obtain ⟨x0, x1⟩ := And.intro (cell_two0 HXr.out) (cell_two1 HXr.out)
    have lx := lt_of_block HXr.out
    by_cases hlt : k < N
    · have hkI : (k : Int) < (N : Int) := by omega
      have HST := hidIt (setTo_step F k)
      have hl5 : l ≤ k := by rw [HL.out]; exact setTo_len _ _
      have HC := hidIt (raDefends_any N _ _ ps x (k : Int) wr (H1.out.below HBr.out) HOK.out HPL.out (H2.out.below HBr.out) HSL.out)
      rw [HSX.out k hlt] at HC
      cases hF : F k
      · rw [hF] at HC HST
        rw [if_neg (by decide), List.append_nil] at HST
        clear hF
        go_wp2_with fail
        refine HC.out.mono ?_
        rintro e w5 ⟨rfl, hb5⟩
        have HO5 := hidIt (HO.out.go hb5)
        have HB5 := hidIt (HBr.out.trans (Below.mono hb5 HBr.out.size))
        clear hb5 HO HBr
        go_wp2_with fail
        go_roundw
        case rel => exact ⟨k + 1, l, b, d, by omega, (by first | rfl | trivial), by go_num, (by rw [HST.out]; exact HL.out), (by rw [HST.out]; exact HO5.out), HB5.out⟩
        case measure => simp [intOf]; omega
      · rw [hF] at HC HST
        rw [if_pos rfl] at HST
        clear hF
        go_wp2_with fail
        refine HC.out.mono ?_
        rintro e w5 ⟨rfl, hb5⟩
        have HO5 := hidIt (HO.out.go hb5)
        have HB5 := hidIt (HBr.out.trans (Below.mono hb5 HBr.out.size))
        clear hb5 HO HBr x0 x1 lx HXr
        have HTL : Hid ((ints (setTo F k)).length = l) := by show _ = _; rw [ints_len]; exact HL.out.symm
        have HO7 := hidIt (HO5.out.news HTL.out (.cells #[.int .i64 (k : Int)] 3))
        have HB7 := hidIt (HB5.out.trans (Below.mono (bgrow w5 (.cells #[.int .i64 (k : Int)] 3)) HB5.out.size))
        have hsz7 : w1.heap.size ≤ (w5.alloc (.cells #[.int .i64 (k : Int)] 3)).heap.size := HB7.out.size
        go_wp2_with (at_builtin; refine Hid.out ?_)
        refine hidIt ?_
        refine wpList_append_kb rfl _ _ elemI rfl w1.heap.size (.slice b l d) l _ rfl HO7.out _ 1 rfl #[.int .i64 (k : Int)] 3 (heap_alloc_new _ _) rfl (one_of (by rfl)) (by omega) hsz7 ?_
        intro g8 c8 w8 hown8 hg8 hbl8
        have HB8 := hidIt (below_app5 HB7.out hg8 (fun g e => (owns_blk HO7.out g e).1) hsz7)
        have HO8 : Hid (OwnI w8 w1.heap.size (.slice (some ⟨g8, 0, none⟩) (l + 1) c8) (ints (setTo F (k + 1)))) := by
          have := OwnI.done HTL.out hown8
          show OwnI _ _ _ _
          rw [HST.out]
          unfold ints at this ⊢
          rw [List.map_append]
          exact this
        have HL8 : Hid (l + 1 = (setTo F (k + 1)).length) := by show _ = _; rw [HST.out, List.length_append, ← HL.out]; rfl
        clear hown8 hg8 hbl8 HO7 HB7 hsz7 HO5 HB5
        go_wp2_with fail
        go_roundw
        case rel => exact ⟨k + 1, l + 1, some ⟨g8, 0, none⟩, c8, by omega, (by first | rfl | trivial), by go_num, HL8.out, HO8.out, HB8.out⟩
        case measure => simp [intOf]; omega
    · obtain rfl : k = N := by omega
      have hkI : ¬ (k : Int) < (k : Int) := by omega
      have HLR : Hid (l = R.length) := by show _ = _; rw [HL.out, ← HXL.out, ints_len]
      have HOF := hidIt (HO.out.base (B' := w.heap.size) HB.out.size)
      have HBF := hidIt (HB.out.trans (Below.mono HBr.out HB.out.size))
      rw [HXL.out] at HOF
      go_wp2_with fail
      go_ret
      rw [← HLR.out]
      exact ⟨b, d, rfl, HOF.out, HBF.out⟩
end Go.Proofs.YtihmdnbeonefcaaDoor

namespace Go.Proofs.YtihmdnbeonefcaaDoor
set_option linter.unusedVariables false
set_option linter.unusedSimpArgs false
open Go Go.RowKit Go.Sort

def isIq13 (m : Nat) (xs : List Int) : Value → World → Prop := fun v w => ∃ (a : Option Addr) (c : Nat), v = .slice a m c ∧ IL w (.slice a m c) xs
theorem isIq13_up (m : Nat) (xs : List Int) : GoesUp (isIq13 m xs) := fun _ _ _ hg ⟨a, c, h1, h2⟩ => ⟨a, c, h1, h2.below hg⟩
theorem isIq13_use {m : Nat} {xs : List Int} {a : Option Addr} {c : Nat} {w : World} (h : isIq13 m xs (.slice a m c) w) : IL w (.slice a m c) xs := by
  obtain ⟨a', c', h1, h2⟩ := h
  rw [h1]
  exact h2
theorem adm_cf {N : Nat} {ps : List (Int × Int)} {X : Nat → Bool} (h : cfX ps X = false) : admX N ps X = false := by unfold admX; rw [h]; rfl
theorem stepL_of {N : Nat} {ps : List (Int × Int)} {x : List Int} (h : setB N x = true) : stepL N ps x = setL N (dfX ps (memB x)) := by unfold stepL; rw [if_pos h]
theorem stepL_len (N : Nat) (ps : List (Int × Int)) (x : List Int) : (stepL N ps x).length ≤ N := by
  unfold stepL
  split
  · exact setL_len N _
  · exact Nat.zero_le _
theorem rangeL_len (N : Nat) (ps : List (Int × Int)) (x : List Int) : (rangeL N ps x).length ≤ N := by
  unfold rangeL
  split
  · exact setL_len N _
  · exact Nat.zero_le _
theorem subL_step {N : Nat} {ps : List (Int × Int)} {x : List Int} (h : setB N x = true) : subL x (stepL N ps x) = subX N (memB x) (dfX ps (memB x)) := by
  rw [stepL_of h]
  conv => lhs; rw [setB_eq h]
  rw [subL_set]
  have e : ∀ i, i < N → memB (setL N (memB x)) i = memB x i := fun i hi => by rw [memB_setL, decide_eq_true hi, Bool.true_and]
  rw [← setB_eq h]
theorem subL_back {N : Nat} {ps : List (Int × Int)} {x : List Int} (h : setB N x = true) : subL (stepL N ps x) x = subX N (dfX ps (memB x)) (memB x) := by
  rw [stepL_of h]
  conv => lhs; arg 2; rw [setB_eq h]
  rw [subL_set]
theorem sizeX_all {N : Nat} {X : Nat → Bool} : (sizeX N X = N) ↔ ∀ i, i < N → X i = true := by
  have e : sizeX N (fun _ => true) = N := by unfold sizeX; rw [List.filter_eq_self.2 (fun _ _ => rfl), List.length_range]
  constructor
  · intro h i hi
    exact sizeX_eq (N := N) (X := X) (Y := fun _ => true) (fun _ _ _ => rfl) (by rw [e, h]; exact Nat.le_refl _) i hi
  · intro h
    have h1 := sizeX_mono (N := N) (X := fun _ => true) (Y := X) (fun i hi _ => h i hi)
    have h2 := sizeX_le N X
    omega
theorem range_all {N : Nat} {ps : List (Int × Int)} {x : List Int} (h : setB N x = true) : decide ((rangeL N ps x).length = N) = subX N (fun _ => true) (orX (memB x) (hitX ps (memB x))) := by
  unfold rangeL
  rw [if_pos h, setL_size, Bool.eq_iff_iff, decide_eq_true_eq, sizeX_all, subX_iff]
  exact ⟨fun h i hi _ => h i hi, fun h i hi => h i hi rfl⟩

set_option maxRecDepth 100000 in
set_option maxHeartbeats 4000000 in
theorem raAdmissible_any (N : Nat) (v v2 : Value) (ps : List (Int × Int)) (x : List Int) (w : World) (h : PairsAt w v ps) (hok : GOk (N : Int) ps) (hpl : ps.length ≤ 1000) (hs : IL w v2 x) (hsl : x.length ≤ 100000) :
    Calls Tryd.prog 19 #[.agg #[.int .i64 (N : Int), v], v2] w fun e w' => e = .returned (.bool (setB N x && admX N ps (memB x))) ∧ Below w.heap.size w w' := by
  have hB := bgrow w (.cells #[.int .i64 (N : Int), v] 27)
  have H1 := hidIt (h.below hB)
  have H2 := hidIt (hs.below hB)
  obtain ⟨a, c, rfl, -⟩ := h.form
  obtain ⟨a2, c2, rfl, -⟩ := (hs.below hB).form
  have HX := hidIt (heap_alloc_new w (.cells #[.int .i64 (N : Int), .slice a ps.length c] 27))
  have HB := hidIt hB
  have HPL := hidIt hpl
  have HSL := hidIt hsl
  have HOK := hidIt hok
  have hN : N ≤ 40 := by have := hok.n40; omega
  obtain ⟨R, hR⟩ : ∃ R, R = (setB N x && admX N ps (memB x)) := ⟨_, rfl⟩
  have HM := hidIt hR
  rw [← hR]
  clear hR
  clear h hs hB hok hpl hsl
  go_enter Tryd.func19, Tryd.ntmps19
  go_upto_region 1 with (fail)
  generalize (w.alloc (.cells #[.int .i64 (N : Int), .slice a ps.length c] 27)) = w1 at *
  obtain ⟨P, hP⟩ : ∃ P, P = w.heap.size := ⟨_, rfl⟩
  have HP := hidIt hP
  rw [← hP] at HX ⊢
  clear hP
  obtain ⟨x0, x1⟩ := And.intro (cell_two0 HX.out) (cell_two1 HX.out)
  have lx := lt_of_block HX.out
  have HC := hidIt (raConflictFree_any N _ _ ps x w1 H1.out HOK.out (by have := HPL.out; omega) H2.out HSL.out)
  cases hc : setB N x && cfX ps (memB x)
  · rw [hc] at HC
    have HE : Hid (R = false) := by
      show _ = _
      rw [HM.out]
      unfold admX; cases hs : setB N x
      · rfl
      · rw [hs, Bool.true_and] at hc; rw [hc]; rfl
    clear hc
    go_wp2_with fail
    refine HC.out.mono ?_
    rintro e w2 ⟨rfl, hb2⟩
    have HB2 := hidIt (HB.out.trans (Below.mono hb2 HB.out.size))
    clear hb2
    go_wp2_with fail
    go_ret
    exact ⟨ret_bool HE.out.symm, HB2.out⟩
  have hset : setB N x = true := by
    rw [Bool.and_eq_true] at hc
    exact hc.1
  have HKY : Hid (subL x (stepL N ps x) = R) := by
    show _ = _
    rw [HM.out, subL_step hset]
    rw [hset]; unfold admX; rw [Bool.and_eq_true] at hc; rw [hc.2]; rfl
  have HSTL := hidIt (stepL_len N ps x)
  have HSB := hidIt hset
  rw [hc] at HC
  clear hc hset
  go_wp2_with fail
  refine HC.out.mono ?_
  rintro e w2 ⟨rfl, hb2⟩
  have HB2 := hidIt (HB.out.trans (Below.mono hb2 HB.out.size))
  have HX2 := hidIt (blk_kept2 HX.out hb2)
  have H12 := hidIt (H1.out.below hb2)
  have H22 := hidIt (H2.out.below hb2)
  clear hb2 x0 x1 lx HX H1 H2 HB
  obtain ⟨x0, x1⟩ := And.intro (cell_two0 HX2.out) (cell_two1 HX2.out)
  have lx := lt_of_block HX2.out
  clear HC
  go_wp2_with fail
  refine (raStep_any N _ _ ps x w2 H12.out HOK.out HPL.out H22.out HSL.out).mono ?_
  rintro e w3 ⟨sa, sc, rfl, ho3, hb3⟩
  have HS3 := hidIt ho3.il
  have HB3 := hidIt (HB2.out.trans (Below.mono hb3 HB2.out.size))
  have H23 := hidIt (H22.out.below hb3)
  clear ho3 hb3
  go_wp2_with fail
  refine (raInside_any _ _ x (stepL N ps x) w3 H23.out HS3.out HSL.out (by have := HSTL.out; omega)).mono ?_
  rw [HKY.out]
  rintro e w4 ⟨rfl, rfl⟩
  go_wp2_with fail
  go_ret
  exact ⟨rfl, HB3.out⟩

set_option maxRecDepth 100000 in
set_option maxHeartbeats 4000000 in
theorem raIsComplete_any (N : Nat) (v v2 : Value) (ps : List (Int × Int)) (x : List Int) (w : World) (h : PairsAt w v ps) (hok : GOk (N : Int) ps) (hpl : ps.length ≤ 1000) (hs : IL w v2 x) (hsl : x.length ≤ 100000) :
    Calls Tryd.prog 21 #[.agg #[.int .i64 (N : Int), v], v2] w fun e w' => e = .returned (.bool (setB N x && compX N ps (memB x))) ∧ Below w.heap.size w w' := by
  have hB := bgrow w (.cells #[.int .i64 (N : Int), v] 27)
  have H1 := hidIt (h.below hB)
  have H2 := hidIt (hs.below hB)
  obtain ⟨a, c, rfl, -⟩ := h.form
  obtain ⟨a2, c2, rfl, -⟩ := (hs.below hB).form
  have HX := hidIt (heap_alloc_new w (.cells #[.int .i64 (N : Int), .slice a ps.length c] 27))
  have HB := hidIt hB
  have HPL := hidIt hpl
  have HSL := hidIt hsl
  have HOK := hidIt hok
  have hN : N ≤ 40 := by have := hok.n40; omega
  obtain ⟨R, hR⟩ : ∃ R, R = (setB N x && compX N ps (memB x)) := ⟨_, rfl⟩
  have HM := hidIt hR
  rw [← hR]
  clear hR
  clear h hs hB hok hpl hsl
  go_enter Tryd.func21, Tryd.ntmps21
  go_upto_region 1 with (fail)
  generalize (w.alloc (.cells #[.int .i64 (N : Int), .slice a ps.length c] 27)) = w1 at *
  obtain ⟨P, hP⟩ : ∃ P, P = w.heap.size := ⟨_, rfl⟩
  have HP := hidIt hP
  rw [← hP] at HX ⊢
  clear hP
  obtain ⟨x0, x1⟩ := And.intro (cell_two0 HX.out) (cell_two1 HX.out)
  have lx := lt_of_block HX.out
  have HC := hidIt (raAdmissible_any N _ _ ps x w1 H1.out HOK.out (by have := HPL.out; omega) H2.out HSL.out)
  cases hc : setB N x && admX N ps (memB x)
  · rw [hc] at HC
    have HE : Hid (R = false) := by
      show _ = _
      rw [HM.out]
      unfold compX; cases hs : setB N x
      · rfl
      · rw [hs, Bool.true_and] at hc; unfold admX at hc; cases hcf : cfX ps (memB x)
        · rfl
        · rw [hcf, Bool.true_and] at hc; rw [hc]; rfl
    clear hc
    go_wp2_with fail
    refine HC.out.mono ?_
    rintro e w2 ⟨rfl, hb2⟩
    have HB2 := hidIt (HB.out.trans (Below.mono hb2 HB.out.size))
    clear hb2
    go_wp2_with fail
    go_ret
    exact ⟨ret_bool HE.out.symm, HB2.out⟩
  have hset : setB N x = true := by
    rw [Bool.and_eq_true] at hc
    exact hc.1
  have HKY : Hid (subL (stepL N ps x) x = R) := by
    show _ = _
    rw [HM.out, subL_back hset]
    rw [hset]; unfold compX; rw [Bool.and_eq_true] at hc; obtain ⟨-, hc⟩ := hc; unfold admX at hc; rw [Bool.and_eq_true] at hc; rw [hc.1, hc.2]; rfl
  have HSTL := hidIt (stepL_len N ps x)
  have HSB := hidIt hset
  rw [hc] at HC
  clear hc hset
  go_wp2_with fail
  refine HC.out.mono ?_
  rintro e w2 ⟨rfl, hb2⟩
  have HB2 := hidIt (HB.out.trans (Below.mono hb2 HB.out.size))
  have HX2 := hidIt (blk_kept2 HX.out hb2)
  have H12 := hidIt (H1.out.below hb2)
  have H22 := hidIt (H2.out.below hb2)
  clear hb2 x0 x1 lx HX H1 H2 HB
  obtain ⟨x0, x1⟩ := And.intro (cell_two0 HX2.out) (cell_two1 HX2.out)
  have lx := lt_of_block HX2.out
  clear HC
  go_wp2_with fail
  refine (raStep_any N _ _ ps x w2 H12.out HOK.out HPL.out H22.out HSL.out).mono ?_
  rintro e w3 ⟨sa, sc, rfl, ho3, hb3⟩
  have HS3 := hidIt ho3.il
  have HB3 := hidIt (HB2.out.trans (Below.mono hb3 HB2.out.size))
  have H23 := hidIt (H22.out.below hb3)
  clear ho3 hb3
  go_wp2_with fail
  refine (raInside_any _ _ (stepL N ps x) x w3 HS3.out H23.out (by have := HSTL.out; omega) HSL.out).mono ?_
  rw [HKY.out]
  rintro e w4 ⟨rfl, rfl⟩
  go_wp2_with fail
  go_ret
  exact ⟨rfl, HB3.out⟩

set_option maxRecDepth 100000 in
set_option maxHeartbeats 4000000 in
theorem raRange_any (N : Nat) (v v2 : Value) (ps : List (Int × Int)) (x : List Int) (w : World) (h : PairsAt w v ps) (hok : GOk (N : Int) ps) (hpl : ps.length ≤ 1000) (hs : IL w v2 x) (hsl : x.length ≤ 100000) :
    Calls Tryd.prog 28 #[.agg #[.int .i64 (N : Int), v], v2] w fun e w' => ∃ (a : Option Addr) (c : Nat), e = .returned (.slice a (rangeL N ps x).length c) ∧ OwnI w' w.heap.size (.slice a (rangeL N ps x).length c) (rangeL N ps x) ∧ Below w.heap.size w w' := by
  have hB := bgrow w (.cells #[.int .i64 (N : Int), v] 27)
  have H1 := hidIt (h.below hB)
  have H2 := hidIt (hs.below hB)
  obtain ⟨a, c, rfl, -⟩ := h.form
  obtain ⟨a2, c2, rfl, -⟩ := (hs.below hB).form
  have HX := hidIt (heap_alloc_new w (.cells #[.int .i64 (N : Int), .slice a ps.length c] 27))
  have HB := hidIt hB
  have HPL := hidIt hpl
  have HSL := hidIt hsl
  have HOK := hidIt hok
  have hN : N ≤ 40 := by have := hok.n40; omega
  have HRL : Hid (rangeL N ps x = if setB N x = true then setL N (orX (memB x) (hitX ps (memB x))) else []) := (rfl : _ = _)
  generalize rangeL N ps x = R at *
  clear h hs hB hok hpl hsl
  go_enter Tryd.func28, Tryd.ntmps28
  go_upto_region 1 with (fail)
  generalize (w.alloc (.cells #[.int .i64 (N : Int), .slice a ps.length c] 27)) = w1 at *
  obtain ⟨P, hP⟩ : ∃ P, P = w.heap.size := ⟨_, rfl⟩
  have HP := hidIt hP
  rw [← hP] at HX ⊢
  clear hP
  obtain ⟨x0, x1⟩ := And.intro (cell_two0 HX.out) (cell_two1 HX.out)
  have lx := lt_of_block HX.out
  have HC := hidIt (raValid_any N _ _ ps x w1 H1.out H2.out HSL.out)
  cases hset : setB N x
  · rw [hset] at HC HRL
    have hR : R = [] := by have := HRL.out; rwa [if_neg (by decide)] at this
    subst hR
    clear hset
    go_wp2_with fail
    refine HC.out.mono ?_
    rintro e w2 ⟨rfl, hb2⟩
    have HB2 := hidIt (HB.out.trans (Below.mono hb2 HB.out.size))
    clear hb2
    go_wp2_with fail
    go_ret
    exact ⟨none, 0, rfl, OwnI.nil _ _, HB2.out⟩
  rw [hset] at HC HRL
  have HF : Hid (R = ints (setTo (orX (memB x) (hitX ps (memB x))) N)) := by have := HRL.out; rw [if_pos rfl] at this; exact this
  clear hset HRL
  go_wp2_with fail
  refine HC.out.mono ?_
  rintro e w2 ⟨rfl, hb2⟩
  have HB2 := hidIt (HB.out.trans (Below.mono hb2 HB.out.size))
  have HX2 := hidIt (blk_kept2 HX.out hb2)
  have H12 := hidIt (H1.out.below hb2)
  have H22 := hidIt (H2.out.below hb2)
  clear hb2 x0 x1 lx HX H1 H2 HB
  obtain ⟨x0, x1⟩ := And.intro (cell_two0 HX2.out) (cell_two1 HX2.out)
  have lx := lt_of_block HX2.out
  clear HC x0 x1 lx
  go_wp2_with fail
  go_loopw [5, 6] (fun v5 i wr => ∃ (k l : Nat) (b : Option Addr) (d : Nat), k ≤ N ∧ v5 = .slice b l d ∧ i = .int .i64 k ∧ Hid (l = (setTo (orX (memB x) (hitX ps (memB x))) k).length) ∧ Hid (OwnI wr w2.heap.size (.slice b l d) (ints (setTo (orX (memB x) (hitX ps (memB x))) k))) ∧ Hid (Below w2.heap.size w2 wr)) (fun _ i _ => N - (intOf i).toNat)
  case atStart => exact ⟨0, 0, none, 0, Nat.zero_le _, (by first | rfl | trivial), (by first | rfl | trivial), (rfl : 0 = (setTo (orX (memB x) (hitX ps (memB x))) 0).length), OwnI.nil _ _, Below.refl _ _⟩
  case round =>
    obtain ⟨k, l, b, d, hk, rfl, rfl, HL, HO, HBr⟩ := hrel
    have hkI0 : (0 : Int) ≤ (k : Int) := by omega
    have HXr := hidIt (blk_kept2 HX2.out HBr.out)
    obtain ⟨x0, x1⟩ := And.intro (cell_two0 HXr.out) (cell_two1 HXr.out)
    have lx := lt_of_block HXr.out
    by_cases hlt : k < N
    · have hkI : (k : Int) < (N : Int) := by omega
      have HST := hidIt (setTo_step (orX (memB x) (hitX ps (memB x))) k)
      have hl5 : l ≤ k := by rw [HL.out]; exact setTo_len _ _
      have HC := hidIt (rlIn_any _ x (k : Int) wr (H22.out.below HBr.out) (by have := HSL.out; omega))
      have HD := hidIt (raHit_any N k _ _ ps x wr (H12.out.below HBr.out) HOK.out (by have := HPL.out; omega) (H22.out.below HBr.out) HSL.out)
      have HOX : Hid (orX (memB x) (hitX ps (memB x)) k = (decide ((k : Int) ∈ x) || hitX ps (memB x) k)) := (rfl : _ = _)
      generalize orX (memB x) (hitX ps (memB x)) = F at *
      generalize hitX ps (memB x) k = hk2 at *
      generalize decide ((k : Int) ∈ x) = mk at *
      cases mk
      · rw [Bool.false_or] at HOX
        cases hk2
        · rw [HOX.out, if_neg (by decide), List.append_nil] at HST
          go_wp2_with fail
          refine HC.out.mono ?_
          rintro e w5 ⟨rfl, rfl⟩
          go_wp2_with fail
          refine HD.out.mono ?_
          rintro e w5 ⟨rfl, hb5⟩
          have HO5 := hidIt (HO.out.go hb5)
          have HB5 := hidIt (HBr.out.trans (Below.mono hb5 HBr.out.size))
          clear hb5 HO HBr
          go_wp2_with fail
          go_roundw
          case rel => exact ⟨k + 1, l, b, d, by omega, (by first | rfl | trivial), by go_num, (by rw [HST.out]; exact HL.out), (by rw [HST.out]; exact HO5.out), HB5.out⟩
          case measure => simp [intOf]; omega
        · rw [HOX.out, if_pos rfl] at HST
          go_wp2_with fail
          refine HC.out.mono ?_
          rintro e w5 ⟨rfl, rfl⟩
          go_wp2_with fail
          refine HD.out.mono ?_
          rintro e w5 ⟨rfl, hb5⟩
          have HO5 := hidIt (HO.out.go hb5)
          have HB5 := hidIt (HBr.out.trans (Below.mono hb5 HBr.out.size))
          clear hb5 HO HBr x0 x1 lx HXr
          have HTL : Hid ((ints (setTo F k)).length = l) := by show _ = _; rw [ints_len]; exact HL.out.symm
          have HO7 := hidIt (HO5.out.news HTL.out (.cells #[.int .i64 (k : Int)] 3))
          have HB7 := hidIt (HB5.out.trans (Below.mono (bgrow w5 (.cells #[.int .i64 (k : Int)] 3)) HB5.out.size))
          have hsz7 : w2.heap.size ≤ (w5.alloc (.cells #[.int .i64 (k : Int)] 3)).heap.size := HB7.out.size
          go_wp2_with (at_builtin; refine Hid.out ?_)
          refine hidIt ?_
          refine wpList_append_kb rfl _ _ elemI rfl w2.heap.size (.slice b l d) l _ rfl HO7.out _ 1 rfl #[.int .i64 (k : Int)] 3 (heap_alloc_new _ _) rfl (one_of (by rfl)) (by omega) hsz7 ?_
          intro g8 c8 w8 hown8 hg8 hbl8
          have HB8 := hidIt (below_app5 HB7.out hg8 (fun g e => (owns_blk HO7.out g e).1) hsz7)
          have HO8 : Hid (OwnI w8 w2.heap.size (.slice (some ⟨g8, 0, none⟩) (l + 1) c8) (ints (setTo F (k + 1)))) := by
            have := OwnI.done HTL.out hown8
            show OwnI _ _ _ _
            rw [HST.out]
            unfold ints at this ⊢
            rw [List.map_append]
            exact this
          have HL8 : Hid (l + 1 = (setTo F (k + 1)).length) := by show _ = _; rw [HST.out, List.length_append, ← HL.out]; rfl
          clear hown8 hg8 hbl8 HO7 HB7 hsz7 HO5 HB5
          go_wp2_with fail
          go_roundw
          case rel => exact ⟨k + 1, l + 1, some ⟨g8, 0, none⟩, c8, by omega, (by first | rfl | trivial), by go_num, HL8.out, HO8.out, HB8.out⟩
          case measure => simp [intOf]; omega
      · rw [Bool.true_or] at HOX
        rw [HOX.out, if_pos rfl] at HST
        clear HD
        go_wp2_with fail
        refine HC.out.mono ?_
        rintro e w5 ⟨rfl, rfl⟩
        have HO5 := hidIt HO.out
        have HB5 := hidIt HBr.out
        clear HO HBr x0 x1 lx HXr
        have HTL : Hid ((ints (setTo F k)).length = l) := by show _ = _; rw [ints_len]; exact HL.out.symm
        have HO7 := hidIt (HO5.out.news HTL.out (.cells #[.int .i64 (k : Int)] 3))
        have HB7 := hidIt (HB5.out.trans (Below.mono (bgrow w5 (.cells #[.int .i64 (k : Int)] 3)) HB5.out.size))
        have hsz7 : w2.heap.size ≤ (w5.alloc (.cells #[.int .i64 (k : Int)] 3)).heap.size := HB7.out.size
        go_wp2_with (at_builtin; refine Hid.out ?_)
        refine hidIt ?_
        refine wpList_append_kb rfl _ _ elemI rfl w2.heap.size (.slice b l d) l _ rfl HO7.out _ 1 rfl #[.int .i64 (k : Int)] 3 (heap_alloc_new _ _) rfl (one_of (by rfl)) (by omega) hsz7 ?_
        intro g8 c8 w8 hown8 hg8 hbl8
        have HB8 := hidIt (below_app5 HB7.out hg8 (fun g e => (owns_blk HO7.out g e).1) hsz7)
        have HO8 : Hid (OwnI w8 w2.heap.size (.slice (some ⟨g8, 0, none⟩) (l + 1) c8) (ints (setTo F (k + 1)))) := by
          have := OwnI.done HTL.out hown8
          show OwnI _ _ _ _
          rw [HST.out]
          unfold ints at this ⊢
          rw [List.map_append]
          exact this
        have HL8 : Hid (l + 1 = (setTo F (k + 1)).length) := by show _ = _; rw [HST.out, List.length_append, ← HL.out]; rfl
        clear hown8 hg8 hbl8 HO7 HB7 hsz7 HO5 HB5
        go_wp2_with fail
        go_roundw
        case rel => exact ⟨k + 1, l + 1, some ⟨g8, 0, none⟩, c8, by omega, (by first | rfl | trivial), by go_num, HL8.out, HO8.out, HB8.out⟩
        case measure => simp [intOf]; omega
    · obtain rfl : k = N := by omega
      have hkI : ¬ (k : Int) < (k : Int) := by omega
      have HLR : Hid (l = R.length) := by show _ = _; rw [HL.out, HF.out, ints_len]
      have HOF := hidIt (HO.out.base (B' := w.heap.size) HB2.out.size)
      have HBF := hidIt (HB2.out.trans (Below.mono HBr.out HB2.out.size))
      rw [← HF.out] at HOF
      go_wp2_with fail
      go_ret
      rw [← HLR.out]
      exact ⟨b, d, rfl, HOF.out, HBF.out⟩

set_option maxRecDepth 100000 in
set_option maxHeartbeats 4000000 in
theorem raIsStable_any (N : Nat) (v v2 : Value) (ps : List (Int × Int)) (x : List Int) (w : World) (h : PairsAt w v ps) (hok : GOk (N : Int) ps) (hpl : ps.length ≤ 1000) (hs : IL w v2 x) (hsl : x.length ≤ 100000) :
    Calls Tryd.prog 23 #[.agg #[.int .i64 (N : Int), v], v2] w fun e w' => e = .returned (.bool (setB N x && stabX N ps (memB x))) ∧ Below w.heap.size w w' := by
  have hB := bgrow w (.cells #[.int .i64 (N : Int), v] 27)
  have H1 := hidIt (h.below hB)
  have H2 := hidIt (hs.below hB)
  obtain ⟨a, c, rfl, -⟩ := h.form
  obtain ⟨a2, c2, rfl, -⟩ := (hs.below hB).form
  have HX := hidIt (heap_alloc_new w (.cells #[.int .i64 (N : Int), .slice a ps.length c] 27))
  have HB := hidIt hB
  have HPL := hidIt hpl
  have HSL := hidIt hsl
  have HOK := hidIt hok
  have hN : N ≤ 40 := by have := hok.n40; omega
  obtain ⟨R, hR⟩ : ∃ R, R = (setB N x && stabX N ps (memB x)) := ⟨_, rfl⟩
  have HM := hidIt hR
  rw [← hR]
  clear hR
  clear h hs hB hok hpl hsl
  go_enter Tryd.func23, Tryd.ntmps23
  go_upto_region 1 with (fail)
  generalize (w.alloc (.cells #[.int .i64 (N : Int), .slice a ps.length c] 27)) = w1 at *
  obtain ⟨P, hP⟩ : ∃ P, P = w.heap.size := ⟨_, rfl⟩
  have HP := hidIt hP
  rw [← hP] at HX ⊢
  clear hP
  obtain ⟨x0, x1⟩ := And.intro (cell_two0 HX.out) (cell_two1 HX.out)
  have lx := lt_of_block HX.out
  have X0 := fun y => Ext.cell x0 y
  have X1 := fun y => Ext.cell x1 y
  have LX := fun y : In (Ext w1) => Nat.lt_of_lt_of_le lx (Below.size y.h)
  cases hc : (setB N x && cfX ps (memB x))
  · have HE : Hid (R = false) := by
      show _ = _
      rw [HM.out]
      unfold stabX
      cases hs : setB N x
      · rfl
      · rw [hs, Bool.true_and] at hc; rw [hc]; rfl
    have HC : Hid (∀ wx : World, Ext w1 wx → Calls Tryd.prog 17 #[.agg #[.int .i64 (N : Int), .slice a ps.length c], .slice a2 x.length c2] wx fun e w' => e = .returned (.bool false) ∧ Below wx.heap.size wx w') := fun wx hC => by
      have := raConflictFree_any N _ _ ps x wx (H1.out.below hC) HOK.out (by have := HPL.out; omega) (H2.out.below hC) HSL.out
      rwa [hc] at this
    clear hc
    haveI := Ext.nonempty w1
    refine wp_region_in (Ext w1) (by kernel_rfl) (by kernel_rfl) (Ext.start w1) ?_
    repeat (go_big_quiet_step ((go_at_call 17; refine Ext.call (HC.out _ (In.h _)))))
    refine wpQuiet_nil ?_
    rintro w5 ⟨⟨_, h5⟩, rfl⟩
    have HB5 := hidIt (HB.out.trans (Below.mono h5 HB.out.size))
    clear h5 X0 X1 LX x0 x1 lx
    go_wp2_with fail
    go_ret
    exact ⟨ret_bool HE.out.symm, HB5.out⟩
  have hset : setB N x = true := by
    rw [Bool.and_eq_true] at hc
    exact hc.1
  have HKY : Hid (decide ((rangeL N ps x).length = N) = R) := by
    show _ = _
    rw [HM.out, range_all hset, hset]
    unfold stabX
    rw [Bool.and_eq_true] at hc
    rw [hc.2]
    rfl
  have HKB : Hid ((((rangeL N ps x).length : Int) == (N : Int)) = R) := by
    show _ = _
    rw [← HKY.out, Bool.eq_iff_iff, beq_iff_eq, decide_eq_true_eq]
    omega
  have CA : Hid (∀ wx, Ext w1 wx → Calls Tryd.prog 17 #[.agg #[.int .i64 (N : Int), .slice a ps.length c], .slice a2 x.length c2] wx fun e w'' => ∃ u, e = .returned u ∧ Ext w1 w'' ∧ Grows wx w'' ∧ isB true u w'') := fun wx hC => rel_call hC ((raConflictFree_any N _ _ ps x wx (H1.out.below hC) HOK.out (by have := HPL.out; omega) (H2.out.below hC) HSL.out).mono fun e w'' ⟨h1, h2⟩ => ⟨_, h1, (by rw [hc]; rfl), h2⟩)
  have CB : Hid (∀ wx, Ext w1 wx → Calls Tryd.prog 28 #[.agg #[.int .i64 (N : Int), .slice a ps.length c], .slice a2 x.length c2] wx fun e w'' => ∃ u, e = .returned u ∧ Ext w1 w'' ∧ Grows wx w'' ∧ isIq13 (rangeL N ps x).length (rangeL N ps x) u w'') := fun wx hC => rel_call hC ((raRange_any N _ _ ps x wx (H1.out.below hC) HOK.out HPL.out (H2.out.below hC) HSL.out).mono fun e w'' ⟨ra, rc, h1, h2, h3⟩ => ⟨_, h1, ⟨ra, rc, rfl, h2.il⟩, h3⟩)
  generalize rangeL N ps x = RL at *
  obtain ⟨L, hL⟩ : ∃ L, L = RL.length := ⟨_, rfl⟩
  rw [← hL] at CB HKB
  clear hc hset hL HKY X0 X1 LX
  have X0 : ∀ wx, Ext w1 wx → wx.cell? ⟨P, 0, none⟩ = some (.int .i64 (N : Int)) := fun wx hC => (Below.cell (p := ⟨P, 0, none⟩) hC lx).trans x0
  have X1 : ∀ wx, Ext w1 wx → wx.cell? ⟨P, 1, none⟩ = some (.slice a ps.length c) := fun wx hC => (Below.cell (p := ⟨P, 1, none⟩) hC lx).trans x1
  haveI := Ext.nonempty w1
  refine wp_region_rel (Ext w1) Grows (relTab [(7, isB true), (11, isIq13 L RL)]) (by kernel_rfl) (by kernel_rfl) (by kernel_rfl) (stable_cons (isB_up _) (stable_cons (isIq13_up _ _) (stable_nil _))) (Ext.start w1) ?_
  repeat (
    refine' walkR_plain (by kernel_rfl) rfl rfl (fun wx hC hL => ?_) ?_
    rotate_left
    · (have hls := Below.size hC
       have hllx := Nat.lt_of_lt_of_le lx hls
       simp only [X0 wx hC, X1 wx hC, hllx, go_sem]; first | done | (go_simp; exact ⟨rfl, rfl⟩))
    simp only [Act.put, List.setIfInBounds_toArray, List.set_cons_zero, List.set_cons_succ])
  refine walkR_rel (by kernel_rfl) rfl rfl (of_decide_eq_true (by kernel_rfl)) (fun wx hC hL => ?_) (fun v hv => ?_)
  · go_simp
    exact CA.out wx hC
  obtain ⟨_, _, rfl⟩ := hv
  simp only [Act.put, List.setIfInBounds_toArray, List.set_cons_zero, List.set_cons_succ]
  repeat (
    refine' walkR_plain (by kernel_rfl) rfl rfl (fun wx hC hL => ?_) ?_
    rotate_left
    · (have hls := Below.size hC
       have hllx := Nat.lt_of_lt_of_le lx hls
       simp only [X0 wx hC, X1 wx hC, hllx, go_sem]; first | done | (go_simp; exact ⟨rfl, rfl⟩))
    simp only [Act.put, List.setIfInBounds_toArray, List.set_cons_zero, List.set_cons_succ])
  refine walkR_rel (by kernel_rfl) rfl rfl (of_decide_eq_true (by kernel_rfl)) (fun wx hC hL => ?_) (fun v hv => ?_)
  · go_simp
    exact CB.out wx hC
  obtain ⟨_, _, a11, c11, rfl, -⟩ := hv
  simp only [Act.put, List.setIfInBounds_toArray, List.set_cons_zero, List.set_cons_succ]
  repeat (
    refine' walkR_plain (by kernel_rfl) rfl rfl (fun wx hC hL => ?_) ?_
    rotate_left
    · (have hls := Below.size hC
       have hllx := Nat.lt_of_lt_of_le lx hls
       simp only [X0 wx hC, X1 wx hC, hllx, go_sem]; first | done | (go_simp; exact ⟨rfl, rfl⟩))
    simp only [Act.put, List.setIfInBounds_toArray, List.set_cons_zero, List.set_cons_succ])
  refine fun w6 hC6 hK => ?_
  have HB6 := hidIt (HB.out.trans (Below.mono (show Below w1.heap.size w1 w6 from hC6) HB.out.size))
  clear hK hC6 X0 X1 x0 x1 lx
  go_wp2_with fail
  go_ret
  exact ⟨by rw [HKB.out]; rfl, HB6.out⟩
end Go.Proofs.YtihmdnbeonefcaaDoor
