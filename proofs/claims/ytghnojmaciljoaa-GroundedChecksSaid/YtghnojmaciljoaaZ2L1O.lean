/- Which nodes are legal: the reference's legal, Illegal and IsComplete. -/
import Derived.Test.YtghnojmaciljoaaZ2D

namespace Go.Proofs.Ytghnojmaciljoaa
set_option linter.unusedVariables false
set_option linter.unusedSimpArgs false
open Go Go.RowKit Go.Sort

/-- How many nodes of a list have a label. -/
def cntA (ks : List Int) (l : List Int) (x : Nat) : Nat := (ks.filter fun k => l.getD k.toNat 0 == (x : Int)).length
theorem cntA_in (ps : List (Int × Int)) (l : List Int) (i x : Nat) : cntA (inL ps i) l x = cntLb ps l i x := by
  unfold cntA cntLb inL
  rw [List.filter_map, List.length_map, List.filter_filter]
  congr 1
  apply List.filter_congr
  intro p _
  show _ = _
  simp only [Function.comp]
  exact Bool.and_comm _ _
theorem cntA_step {ks : List Int} {l : List Int} {k : Nat} (h : k < ks.length) {g : Nat} (he : ks[k] = (g : Int)) {y : Nat} (hy : l.getD g 0 = (y : Int)) (x : Nat) : cntA (ks.take (k + 1)) l x = cntA (ks.take k) l x + if x = y then 1 else 0 := by
  unfold cntA
  rw [List.take_succ_eq_append_getElem h, List.filter_append, List.length_append, he]
  congr 1
  simp only [List.filter_cons, List.filter_nil, Int.toNat_natCast, hy]
  by_cases e2 : x = y
  · subst e2; simp
  · have : ((y : Int) == (x : Int)) = false := beq_eq_false_iff_ne.2 (by omega)
    simp [e2, this]
theorem cntA_len (ks : List Int) (l : List Int) (x : Nat) : cntA ks l x ≤ ks.length := List.length_filter_le _ _
theorem cntA_sum {l : List Int} : ∀ (ks : List Int), (∀ k ∈ ks, l.getD k.toNat 0 = 1 ∨ l.getD k.toNat 0 = 2 ∨ l.getD k.toNat 0 = 3) → cntA ks l 1 + cntA ks l 2 + cntA ks l 3 = ks.length
  | [], _ => rfl
  | k :: r, h => by
    have ih := cntA_sum r (fun j hj => h j (List.mem_cons_of_mem _ hj))
    have hk := h k (List.mem_cons_self ..)
    unfold cntA at ih ⊢
    simp only [List.filter_cons, List.length_cons]
    generalize l.getD k.toNat 0 = z at hk ⊢
    rcases hk with rfl | rfl | rfl
    · simp; simp at ih; omega
    · simp; simp at ih; omega
    · simp; simp at ih; omega

set_option maxRecDepth 100000 in
set_option maxHeartbeats 2000000 in
theorem rlLegal_any (N i : Nat) (hi : i < N) (v v2 : Value) (ps : List (Int × Int)) (l : List Int) (w : World) (h : PairsAt w v ps) (hok : GOk (N : Int) ps) (hl : ps.length ≤ 1000) (hs : IL w v2 l) (hll : l.length = N) (hlab : LabOk l) :
    Calls Try.prog 47 #[.agg #[.int .i64 (N : Int), v], v2, .int .i64 (i : Int)] w fun e w' => e = .returned (.bool (decide (l.getD i 0 = legL ps l i))) ∧ Below w.heap.size w w' := by
  have hB := bgrow w (.cells #[.int .i64 (N : Int), v] 27)
  have H1 := hidIt (h.below hB)
  obtain ⟨a, c, rfl, -⟩ := h.form
  obtain ⟨a2, c2, rfl, hic⟩ := hs.ic
  have HIC := hidIt hic
  have HX := hidIt (heap_alloc_new w (.cells #[.int .i64 (N : Int), .slice a ps.length c] 27))
  have HB := hidIt hB
  have HVL := hidIt (vL_of hok)
  have HLAB := hidIt hlab
  have hN : N ≤ 40 := by have := hok.n40; omega
  have HIX : Hid (∀ k ∈ inL ps (i : Int), 0 ≤ k ∧ k < (N : Int)) := fun k hk => by
    unfold inL at hk
    rw [List.mem_map] at hk
    obtain ⟨p, hp, rfl⟩ := hk
    exact (hok.ix p (List.mem_filter.1 hp).1).1
  have HLEN := hidIt (inL_len ps (i : Int))
  have HCN := hidIt (fun x => cntA_in ps l i x)
  have HV : Hid (legL ps l i = legC (cntLb ps l i 1) (cntLb ps l i 3)) := (rfl : _ = _)
  have HLL := hidIt hll
  clear h hs hB hok hic hlab
  rw [hll]
  clear hll
  go_enter Try.func47, Try.ntmps47
  go_upto_region 1 with (fail)
  generalize (w.alloc (.cells #[.int .i64 (N : Int), .slice a ps.length c] 27)) = w1 at *
  obtain ⟨x0, x1⟩ := And.intro (cell_two0 HX.out) (cell_two1 HX.out)
  have lx := lt_of_block HX.out
  go_wp2_with fail
  have HC := hidIt (rgAttackers_any (N : Int) _ ps (i : Int) w1 H1.out hl)
  rw [HVL.out] at HC
  refine HC.out.mono ?_
  rintro e w2 ⟨v3, rfl, hi3, hb2⟩
  generalize inL ps (i : Int) = ks at *
  obtain ⟨a3, c3, rfl, hic3⟩ := hi3.ic
  have HK := hidIt hic3
  have HB2 := hidIt (HB.out.trans (Below.mono hb2 HB.out.size))
  have HIC2 := hidIt (HIC.out.go HB2.out)
  obtain ⟨A, hA⟩ : ∃ A, A = ks.length := ⟨_, rfl⟩
  have HA := hidIt hA
  rw [← hA]
  have hA1 : A ≤ 1000 := by have := HLEN.out; omega
  clear hA hic3 hi3 hb2 HC HX HB x0 x1 lx H1
  go_wp2_with fail
  go_loopw [7, 8, 10] (fun v7 v8 j wr => ∃ q : Nat, q ≤ A ∧ v7 = .int .i64 (cntA (ks.take q) l 2) ∧ v8 = .int .i64 (cntA (ks.take q) l 1) ∧ j = .int .i64 q ∧ wr = w2) (fun _ _ j _ => A - (intOf j).toNat)
  case atStart => exact ⟨0, Nat.zero_le _, (by first | rfl | trivial), (by first | rfl | trivial), (by first | rfl | trivial), (by first | rfl | trivial)⟩
  case round =>
    obtain ⟨q, hq, rfl, rfl, rfl, rfl⟩ := hrel
    have hqI0 : (0 : Int) ≤ (q : Int) := by omega
    by_cases hlt : q < A
    · have hqI : (q : Int) < (A : Int) := by omega
      have h1x : q < ks.length := by have := HA.out; omega
      obtain ⟨b1, o1, rfl, l1, hc1⟩ := HK.out.at_ h1x
      have p0 := hc1 q h1x
      have hrg := HIX.out ks[q] (List.getElem_mem _)
      obtain ⟨g, hg⟩ : ∃ g : Nat, ks[q] = (g : Int) := ⟨ks[q].toNat, by omega⟩
      rw [hg] at p0 hrg
      have hgl : g < l.length := by have := HLL.out; omega
      obtain ⟨y, hy1, hy2, hy4, hy0⟩ := HLAB.out.nat hgl
      obtain ⟨b2, o2, rfl, l2, hc2⟩ := HIC2.out.at_ hgl
      have q0 := hc2 g hgl
      rw [hy1] at q0
      have HST := hidIt (fun x => cntA_step h1x hg hy2 x)
      have hg0 : (0 : Int) ≤ (g : Int) := by omega
      have hgI : (g : Int) < (N : Int) := by omega
      have hc2l := cntA_len (ks.take q) l 2
      have hc1l := cntA_len (ks.take q) l 1
      rw [List.length_take] at hc2l hc1l
      have hw2 : IntKind.i64.wrap (((cntA (ks.take q) l 2 : Nat) : Int) + 1) = ((cntA (ks.take q) l 2 : Nat) : Int) + 1 := IntWalk.i64_in _ (by omega)
      have hw1 : IntKind.i64.wrap (((cntA (ks.take q) l 1 : Nat) : Int) + 1) = ((cntA (ks.take q) l 1 : Nat) : Int) + 1 := IntWalk.i64_in _ (by omega)
      have HS1 := hidIt (HST.out 1)
      have HS2 := hidIt (HST.out 2)
      clear hc1 hc2 hg hgl hy1 hy2 h1x hrg HST hc2l hc1l
      obtain rfl | rfl | rfl : y = 1 ∨ y = 2 ∨ y = 3 := by omega
      · rw [if_pos rfl] at HS1
        rw [if_neg (by decide), Nat.add_zero] at HS2
        generalize cntA (ks.take q) l 1 = n1 at *
        generalize cntA (ks.take q) l 2 = n2 at *
        go_wp2_with fail
        go_roundw
        case rel => exact ⟨q + 1, by omega, (by first | (rw [HS2.out]; done) | (rw [HS2.out]; rfl) | (simp [HS2.out]; done) | (simp [HS2.out]; omega)), (by first | (rw [HS1.out]; done) | (rw [HS1.out]; rfl) | (simp [HS1.out]; done) | (simp [HS1.out]; omega)), by go_num, (by first | rfl | trivial)⟩
        case measure => simp [intOf]; omega
      · rw [if_pos rfl] at HS2
        rw [if_neg (by decide), Nat.add_zero] at HS1
        generalize cntA (ks.take q) l 1 = n1 at *
        generalize cntA (ks.take q) l 2 = n2 at *
        go_wp2_with fail
        go_roundw
        case rel => exact ⟨q + 1, by omega, (by first | (rw [HS2.out]; done) | (rw [HS2.out]; rfl) | (simp [HS2.out]; done) | (simp [HS2.out]; omega)), (by first | (rw [HS1.out]; done) | (rw [HS1.out]; rfl) | (simp [HS1.out]; done) | (simp [HS1.out]; omega)), by go_num, (by first | rfl | trivial)⟩
        case measure => simp [intOf]; omega
      · rw [if_neg (by decide), Nat.add_zero] at HS1 HS2
        generalize cntA (ks.take q) l 1 = n1 at *
        generalize cntA (ks.take q) l 2 = n2 at *
        go_wp2_with fail
        go_roundw
        case rel => exact ⟨q + 1, by omega, (by first | (rw [HS2.out]; done) | (rw [HS2.out]; rfl) | (simp [HS2.out]; done) | (simp [HS2.out]; omega)), (by first | (rw [HS1.out]; done) | (rw [HS1.out]; rfl) | (simp [HS1.out]; done) | (simp [HS1.out]; omega)), by go_num, (by first | rfl | trivial)⟩
        case measure => simp [intOf]; omega
    · obtain rfl : q = A := by omega
      have hqI : ¬ (q : Int) < (q : Int) := by omega
      rw [List.take_of_length_le (by have := HA.out; omega)]
      have hsum := cntA_sum (l := l) ks (fun k hk => by
        have hr := HIX.out k hk
        obtain ⟨y, hy1, hy2, hy4, hy0⟩ := HLAB.out.nat (g := k.toNat) (by have := HLL.out; omega)
        rw [hy2]
        omega)
      have HN1 := hidIt (HCN.out 1)
      have HN3 := hidIt (HCN.out 3)
      rw [← HN1.out, ← HN3.out] at HV
      rw [← HA.out] at hsum
      clear HN1 HN3 HCN
      have hil : i < l.length := by have := HLL.out; omega
      obtain ⟨y, hy1, hy2, hy4, hy0⟩ := HLAB.out.nat hil
      obtain ⟨b2, o2, rfl, l2, hc2⟩ := HIC2.out.at_ hil
      have q0 := hc2 i hil
      rw [hy1] at q0
      have hi0 : (0 : Int) ≤ (i : Int) := by omega
      have hiI : (i : Int) < (N : Int) := by omega
      have HY := hidIt hy2
      clear hc2 hil hy1 hy2
      generalize cntA ks l 1 = n1 at *
      generalize cntA ks l 2 = n2 at *
      generalize cntA ks l 3 = n3 at *
      have HL2 : Hid (legL ps l i = if 0 < (n1 : Int) then 2 else if 0 < (n3 : Int) then 3 else 1) := HV.out
      obtain rfl | rfl | rfl : y = 1 ∨ y = 2 ∨ y = 3 := by omega
      · by_cases hc : n2 = q
        · have hb : ((n2 : Int) == (q : Int)) = true := beq_iff_eq.2 (by omega)
          have HE : Hid (decide (l.getD i 0 = legL ps l i) = true) := by show _ = _; rw [HY.out, HL2.out, if_neg (by omega), if_neg (by omega)]; rfl
          clear hc
          go_wp2_with fail
          go_ret
          exact ⟨ret_bool HE.out.symm, HB2.out⟩
        · have hb : ((n2 : Int) == (q : Int)) = false := beq_eq_false_iff_ne.2 (by omega)
          have HE : Hid (decide (l.getD i 0 = legL ps l i) = false) := by
            show _ = _
            rw [HY.out, HL2.out]
            by_cases e1 : 0 < (n1 : Int)
            · rw [if_pos e1]; rfl
            · rw [if_neg e1, if_pos (by omega)]; rfl
          clear hc
          go_wp2_with fail
          go_ret
          exact ⟨ret_bool HE.out.symm, HB2.out⟩
      · by_cases hc : 0 < (n1 : Int)
        · have HE : Hid (decide (l.getD i 0 = legL ps l i) = true) := by show _ = _; rw [HY.out, HL2.out, if_pos hc]; rfl
          go_wp2_with fail
          go_ret
          exact ⟨ret_bool (by first | exact HE.out.symm | (have h := HE.out; rw [List.getD_eq_getElem?_getD] at h; rw [h]; simp; omega)), HB2.out⟩
        · have HE : Hid (decide (l.getD i 0 = legL ps l i) = false) := by
            show _ = _
            rw [HY.out, HL2.out, if_neg hc]
            by_cases e1 : 0 < (n3 : Int)
            · rw [if_pos e1]; rfl
            · rw [if_neg e1]; rfl
          go_wp2_with fail
          go_ret
          exact ⟨ret_bool (by first | exact HE.out.symm | (have h := HE.out; rw [List.getD_eq_getElem?_getD] at h; rw [h]; simp; omega)), HB2.out⟩
      · by_cases hc : n1 = 0
        · have hb : ((n1 : Int) == 0) = true := beq_iff_eq.2 (by omega)
          by_cases hd : (n2 : Int) < (q : Int)
          · have HE : Hid (decide (l.getD i 0 = legL ps l i) = true) := by show _ = _; rw [HY.out, HL2.out, if_neg (by omega), if_pos (by omega)]; rfl
            clear hc
            go_wp2_with fail
            go_ret
            exact ⟨ret_bool HE.out.symm, HB2.out⟩
          · have HE : Hid (decide (l.getD i 0 = legL ps l i) = false) := by show _ = _; rw [HY.out, HL2.out, if_neg (by omega), if_neg (by omega)]; rfl
            clear hc
            go_wp2_with fail
            go_ret
            exact ⟨ret_bool HE.out.symm, HB2.out⟩
        · have hb : ((n1 : Int) == 0) = false := beq_eq_false_iff_ne.2 (by omega)
          have HE : Hid (decide (l.getD i 0 = legL ps l i) = false) := by show _ = _; rw [HY.out, HL2.out, if_pos (by omega)]; rfl
          clear hc
          go_wp2_with fail
          go_ret
          exact ⟨ret_bool HE.out.symm, HB2.out⟩

set_option maxRecDepth 100000 in
set_option maxHeartbeats 2000000 in
theorem rlIllegal_any (N : Nat) (v v2 : Value) (ps : List (Int × Int)) (l : List Int) (w : World) (h : PairsAt w v ps) (hok : GOk (N : Int) ps) (hl : ps.length ≤ 1000) (hs : IL w v2 l) (hsl : l.length ≤ 1000) :
    Calls Try.prog 36 #[.agg #[.int .i64 (N : Int), v], v2] w fun e w' => ∃ (a : Option Addr) (c : Nat), e = .returned (.slice a (illL N ps l).length c) ∧ OwnI w' w.heap.size (.slice a (illL N ps l).length c) (ints (illL N ps l)) ∧ Below w.heap.size w w' := by
  have hB := bgrow w (.cells #[.int .i64 (N : Int), v] 27)
  have H1 := hidIt (h.below hB)
  have HS1 := hidIt (hs.below hB)
  obtain ⟨a, c, rfl, -⟩ := h.form
  obtain ⟨a2, c2, rfl, -⟩ := hs.form
  have HX := hidIt (heap_alloc_new w (.cells #[.int .i64 (N : Int), .slice a ps.length c] 27))
  have HB := hidIt hB
  have HOK := hidIt hok
  have hN : N ≤ 40 := by have := hok.n40; omega
  have HV : Hid (illL N ps l = if validB N l = true then illTo ps l N else []) := (rfl : _ = _)
  clear h hs hB hok
  go_enter Try.func36, Try.ntmps36
  go_upto_region 1 with (fail)
  generalize (w.alloc (.cells #[.int .i64 (N : Int), .slice a ps.length c] 27)) = w1 at *
  obtain ⟨x0, x1⟩ := And.intro (cell_two0 HX.out) (cell_two1 HX.out)
  have lx := lt_of_block HX.out
  cases hv : validB N l
  · have HE : Hid (illL N ps l = []) := by show _ = _; rw [HV.out, hv]; rfl
    have HVV := hidIt hv
    clear hv
    go_wp2_with fail
    refine (rlValid_any N _ _ ps l _ H1.out HS1.out hsl).mono ?_
    rw [HVV.out]
    rintro e w2 ⟨rfl, hb2⟩
    have HB2 := hidIt (HB.out.trans (Below.mono hb2 HB.out.size))
    clear hb2
    go_wp2_with fail
    go_ret
    rw [HE.out]
    exact ⟨none, 0, rfl, OwnI.nil _ _, HB2.out⟩
  have HE : Hid (illL N ps l = illTo ps l N) := by show _ = _; rw [HV.out, hv]; rfl
  have HVV := hidIt hv
  have HLN := hidIt (validB_iff.1 hv).1
  have HLAB := hidIt (validB_iff.1 hv).2
  clear hv HV
  go_wp2_with fail
  refine (rlValid_any N _ _ ps l _ H1.out HS1.out hsl).mono ?_
  rw [HVV.out]
  rintro e w2 ⟨rfl, hb2⟩
  have HX2 := hidIt (blk_kept2 HX.out hb2)
  have HB2 := hidIt (HB.out.trans (Below.mono hb2 HB.out.size))
  have H2 := hidIt (H1.out.below hb2)
  have HS2 := hidIt (HS1.out.below hb2)
  clear hb2 HB HX H1 HS1 x0 x1 lx
  have HLP : Hid (w.heap.size < w2.heap.size) := lt_of_block HX2.out
  generalize w.heap.size = P at HX2 HLP ⊢
  obtain ⟨x0, x1⟩ := And.intro (cell_two0 HX2.out) (cell_two1 HX2.out)
  have lx := lt_of_block HX2.out
  go_wp2_with fail
  go_loopw [5, 6] (fun v5 i wr => ∃ (k m : Nat) (a5 : Option Addr) (c5 : Nat), k ≤ N ∧ v5 = .slice a5 m c5 ∧ i = .int .i64 k ∧ Hid (m = (illTo ps l k).length) ∧ Hid (OwnI wr w2.heap.size (.slice a5 m c5) (ints (illTo ps l k))) ∧ Hid (Below w2.heap.size w2 wr)) (fun _ i _ => N - (intOf i).toNat)
  case atStart => exact ⟨0, 0, none, 0, Nat.zero_le _, (by first | rfl | trivial), (by first | rfl | trivial), (rfl : 0 = (illTo ps l 0).length), OwnI.nil _ _, Below.refl _ _⟩
  case round =>
    clear x0 x1 lx
    obtain ⟨k, m, a5, c5, hk, rfl, rfl, HM, HO, HBr⟩ := hrel
    have hkI0 : (0 : Int) ≤ (k : Int) := by omega
    have HXr := hidIt (blk_kept2 HX2.out HBr.out)
    obtain ⟨x0, x1⟩ := And.intro (cell_two0 HXr.out) (cell_two1 HXr.out)
    have lx := lt_of_block HXr.out
    by_cases hlt : k < N
    · have hkI : (k : Int) < (N : Int) := by omega
      have HST := hidIt (illTo_step ps l k)
      have hm5 : m ≤ k := by rw [HM.out]; exact illTo_len _ _ _
      have HTL : Hid ((ints (illTo ps l k)).length = m) := by show _ = _; rw [ints_len]; exact HM.out.symm
      have HCA := hidIt (rlLegal_any N k hlt _ _ ps l wr (H2.out.below HBr.out) HOK.out hl (HS2.out.below HBr.out) HLN.out HLAB.out)
      by_cases he : l.getD k 0 = legL ps l k
      · rw [decide_eq_true he] at HCA
        rw [if_pos he, List.append_nil] at HST
        clear he
        go_wp2_with fail
        refine HCA.out.mono ?_
        rintro e w5 ⟨rfl, h5⟩
        have HO5 := hidIt (HO.out.go h5)
        have HB5 := hidIt (HBr.out.trans (Below.mono h5 HBr.out.size))
        clear h5
        go_wp2_with fail
        go_roundw
        case rel => exact ⟨k + 1, m, a5, c5, by omega, (by first | rfl | trivial), by go_num, (by rw [HST.out]; exact HM.out), (by rw [HST.out]; exact HO5.out), HB5.out⟩
        case measure => simp [intOf]; omega
      · rw [decide_eq_false he] at HCA
        rw [if_neg he] at HST
        clear he
        go_wp2_with fail
        refine HCA.out.mono ?_
        rintro e w5 ⟨rfl, h5⟩
        have HO5 := hidIt (HO.out.go h5)
        have HB5 := hidIt (HBr.out.trans (Below.mono h5 HBr.out.size))
        clear h5
        have HO7 := hidIt (HO5.out.news HTL.out (.cells #[.int .i64 (k : Int)] 3))
        have HB7 := hidIt (HB5.out.trans (Below.mono (bgrow w5 (.cells #[.int .i64 (k : Int)] 3)) HB5.out.size))
        have hsz7 : w2.heap.size ≤ (w5.alloc (.cells #[.int .i64 (k : Int)] 3)).heap.size := HB7.out.size
        go_wp2_with (at_builtin; refine Hid.out ?_)
        refine hidIt ?_
        refine wpList_append_kb rfl _ _ elemI rfl w2.heap.size (.slice a5 m c5) m _ rfl HO7.out _ 1 rfl #[.int .i64 (k : Int)] 3 (heap_alloc_new _ _) rfl (one_of (by rfl)) (by omega) hsz7 ?_
        intro g8 c8 w8 hown8 hg8 hbl8
        have HB8 := hidIt (below_app5 HB7.out hg8 (fun g e => (owns_blk HO7.out g e).1) hsz7)
        have HO8 : Hid (OwnI w8 w2.heap.size (.slice (some ⟨g8, 0, none⟩) (m + 1) c8) (ints (illTo ps l (k + 1)))) := by
          have := OwnI.done HTL.out hown8
          show OwnI _ _ _ _
          rw [HST.out]
          unfold ints at this ⊢
          rw [List.map_append]
          exact this
        have HL8 : Hid (m + 1 = (illTo ps l (k + 1)).length) := by show _ = _; rw [HST.out, List.length_append, ← HM.out]; rfl
        clear hown8 hg8 hbl8 HO7 HB7 hsz7 HO5 HB5 x0 x1 lx HXr
        go_wp2_with fail
        go_roundw
        case rel => exact ⟨k + 1, m + 1, some ⟨g8, 0, none⟩, c8, by omega, (by first | rfl | trivial), by go_num, HL8.out, HO8.out, HB8.out⟩
        case measure => simp [intOf]; omega
    · obtain rfl : k = N := by omega
      have hkI : ¬ (k : Int) < (k : Int) := by omega
      have HBF := hidIt (HB2.out.trans (Below.mono HBr.out HB2.out.size))
      have HOF := hidIt (owns_mono HO.out HB2.out.size)
      go_wp2_with fail
      go_ret
      rw [HE.out, ← HM.out]
      exact ⟨a5, c5, rfl, HOF.out, HBF.out⟩

set_option maxRecDepth 100000 in
set_option maxHeartbeats 1000000 in
theorem rlIsComplete_any (N : Nat) (v v2 : Value) (ps : List (Int × Int)) (l : List Int) (w : World) (h : PairsAt w v ps) (hok : GOk (N : Int) ps) (hl : ps.length ≤ 1000) (hs : IL w v2 l) (hsl : l.length ≤ 1000) :
    Calls Try.prog 22 #[.agg #[.int .i64 (N : Int), v], v2] w fun e w' => e = .returned (.bool (validB N l && decide ((illL N ps l).length = 0))) ∧ Below w.heap.size w w' := by
  have hB := bgrow w (.cells #[.int .i64 (N : Int), v] 27)
  have H1 := hidIt (h.below hB)
  have HS1 := hidIt (hs.below hB)
  obtain ⟨a, c, rfl, -⟩ := h.form
  obtain ⟨a2, c2, rfl, -⟩ := hs.form
  have HX := hidIt (heap_alloc_new w (.cells #[.int .i64 (N : Int), .slice a ps.length c] 27))
  have HB := hidIt hB
  have HOK := hidIt hok
  clear h hs hB hok
  go_enter Try.func22, Try.ntmps22
  go_upto_region 1 with (fail)
  generalize (w.alloc (.cells #[.int .i64 (N : Int), .slice a ps.length c] 27)) = w1 at *
  obtain ⟨x0, x1⟩ := And.intro (cell_two0 HX.out) (cell_two1 HX.out)
  have lx := lt_of_block HX.out
  have HVC := hidIt (rlValid_any N _ _ ps l _ H1.out HS1.out hsl)
  cases hv : validB N l
  · rw [hv] at HVC
    have HVV := hidIt hv
    clear hv
    go_wp2_with fail
    refine HVC.out.mono ?_
    rintro e w2 ⟨rfl, hb2⟩
    have HB2 := hidIt (HB.out.trans (Below.mono hb2 HB.out.size))
    clear hb2
    go_wp2_with fail
    go_ret
    exact ⟨ret_bool (by first | rfl | simp [HVV.out]), HB2.out⟩
  rw [hv] at HVC
  have HVV := hidIt hv
  clear hv
  go_wp2_with fail
  refine HVC.out.mono ?_
  rintro e w2 ⟨rfl, hb2⟩
  have HX2 := hidIt (blk_kept2 HX.out hb2)
  have HB2 := hidIt (HB.out.trans (Below.mono hb2 HB.out.size))
  have H2 := hidIt (H1.out.below hb2)
  have HS2 := hidIt (HS1.out.below hb2)
  clear hb2 HB HX H1 HS1 x0 x1 lx HVC
  obtain ⟨x0, x1⟩ := And.intro (cell_two0 HX2.out) (cell_two1 HX2.out)
  have lx := lt_of_block HX2.out
  go_wp2_with fail
  refine (rlIllegal_any N _ _ ps l _ H2.out HOK.out hl HS2.out hsl).mono ?_
  rintro e w3 ⟨a3, c3, rfl, -, hb3⟩
  have HB3 := hidIt (HB2.out.trans (Below.mono hb3 HB2.out.size))
  clear hb3
  obtain ⟨n, hn⟩ : ∃ n, n = (illL N ps l).length := ⟨_, rfl⟩
  have HNN := hidIt hn
  rw [← hn]
  clear hn
  by_cases h0 : n = 0
  · have hb : ((n : Int) == 0) = true := beq_iff_eq.2 (by omega)
    have HD : Hid ((validB N l && decide ((illL N ps l).length = 0)) = true) := by show _ = _; rw [HVV.out, ← HNN.out, decide_eq_true h0]; rfl
    clear h0
    go_wp2_with fail
    go_ret
    exact ⟨ret_bool HD.out.symm, HB3.out⟩
  · have hb : ((n : Int) == 0) = false := beq_eq_false_iff_ne.2 (by omega)
    have HD : Hid ((validB N l && decide ((illL N ps l).length = 0)) = false) := by show _ = _; rw [HVV.out, ← HNN.out, decide_eq_false h0]; rfl
    clear h0
    go_wp2_with fail
    go_ret
    exact ⟨ret_bool HD.out.symm, HB3.out⟩
end Go.Proofs.Ytghnojmaciljoaa
