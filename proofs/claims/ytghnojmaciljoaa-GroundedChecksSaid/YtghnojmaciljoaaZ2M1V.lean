/- The reference's Check. -/
import Derived.Test.YtghnojmaciljoaaZ2M1L
import Derived.Test.YtghnojmaciljoaaZ2G
import Derived.Test.YtghnojmaciljoaaZ2L1O

namespace Go.Proofs.Ytghnojmaciljoaa
set_option linter.unusedVariables false
set_option linter.unusedSimpArgs false
open Go Go.RowKit Go.Sort

def rdG (l r As : List Int) (i : Nat) : Bool := (decide (l.getD i 0 = 3) || (decide (l.getD i 0 = 1) && decide (1 ≤ r.getD i 0))) || (decide (l.getD i 0 = 2) && As.any fun x => defB l r (x, (i : Int)))
def rdBad (l r As : List Int) (i : Nat) : Bool := As.any fun x => badP l r (x, (i : Int))
def nodeOk (ps : List (Int × Int)) (l r : List Int) (i : Nat) : Prop := rdG l r (inL ps (i : Int)) i = true ∧ rdBad l r (inL ps (i : Int)) i = false
theorem mem_inLv {ps : List (Int × Int)} {i k : Int} : k ∈ inL ps i ↔ (k, i) ∈ ps := by
  unfold inL
  rw [List.mem_map]
  constructor
  · rintro ⟨p, hp, rfl⟩
    rw [List.mem_filter] at hp
    obtain ⟨h1, h2⟩ := hp
    have : p.2 = i := by simpa using h2
    rw [← this]
    exact h1
  · intro h
    exact ⟨(k, i), List.mem_filter.2 ⟨h, by simp⟩, rfl⟩
theorem prov_nodes {N : Nat} {ps : List (Int × Int)} (hix : ∀ p ∈ ps, (0 ≤ p.1 ∧ p.1 < (N : Int)) ∧ (0 ≤ p.2 ∧ p.2 < (N : Int))) {l r : List Int} (hl : l.length = N) (hlo : LabOk l) : provB N ps l r = true ↔ ∀ i, i < N → nodeOk ps l r i := by
  rw [provB_iff hix]
  have nat : ∀ i x, x ∈ inL ps ((i : Nat) : Int) → ∃ k : Nat, x = (k : Int) ∧ At ps k i := fun i x hx => by
    have h1 := mem_inLv.1 hx
    have h2 := hix _ h1
    simp only at h2
    refine ⟨x.toNat, by omega, ?_⟩
    unfold At
    rw [show ((x.toNat : Nat) : Int) = x by omega]
    exact h1
  constructor
  · intro h i hi
    have hlab := hlo l[i] (List.getElem_mem (by omega))
    rw [← getD_at] at hlab
    unfold nodeOk rdG rdBad
    refine ⟨?_, ?_⟩
    · rcases hlab with e | e | e
      · have := (h.inn i hi e).1
        rw [decide_eq_true e, decide_eq_true this]; simp
      · obtain ⟨k, hk, h1, h2, h3⟩ := h.out i hi e
        rw [decide_eq_true e]
        have : (inL ps (i : Int)).any (fun x => defB l r (x, (i : Int))) = true := List.any_eq_true.2 ⟨_, mem_inLv.2 hk, by
          unfold defB
          simp only [Int.toNat_natCast, Bool.and_eq_true, decide_eq_true_eq]
          exact ⟨h1, h2, h3⟩⟩
        rw [this]; simp
      · rw [decide_eq_true e]; simp
    · rw [List.any_eq_false]
      intro x hx hb
      obtain ⟨k, rfl, hk⟩ := nat i x hx
      unfold badP at hb
      simp only [Int.toNat_natCast, Bool.and_eq_true, decide_eq_true_eq] at hb
      have := (h.inn i hi hb.1).2 k hk
      omega
  · intro h
    refine ⟨fun i hi e => ⟨?_, fun k hk => ?_⟩, fun i hi e => ?_⟩
    · have h1 := (h i hi).1
      unfold rdG at h1
      rw [e] at h1
      simpa using h1
    · have h1 := (h i hi).2
      unfold rdBad at h1
      rw [List.any_eq_false] at h1
      refine Classical.byContradiction fun hlt => h1 _ (mem_inLv.2 hk) ?_
      unfold badP
      simp only [Int.toNat_natCast, Bool.and_eq_true, decide_eq_true_eq]
      exact ⟨e, by omega⟩
    · have h1 := (h i hi).1
      unfold rdG at h1
      rw [e] at h1
      have h2 : (inL ps (i : Int)).any (fun x => defB l r (x, (i : Int))) = true := by simpa using h1
      obtain ⟨x, hx, hd⟩ := List.any_eq_true.1 h2
      obtain ⟨k, rfl, hk⟩ := nat i x hx
      unfold defB at hd
      simp only [Int.toNat_natCast, Bool.and_eq_true, decide_eq_true_eq] at hd
      exact ⟨k, hk, hd.1, hd.2.1, hd.2.2⟩
theorem inL_short (ps : List (Int × Int)) (i : Int) : (inL ps i).length ≤ ps.length := by
  unfold inL
  rw [List.length_map]
  exact List.length_filter_le _ _
theorem below_drewNV (n m : Nat) (w : World) : Below n w (w.drewN m) := ⟨rfl, rfl, rfl, Nat.le_refl _, fun _ _ => rfl⟩

set_option maxRecDepth 100000 in
set_option maxHeartbeats 4000000 in
theorem rdCheck_any (n : Int) (v v1 v2 : Value) (ps : List (Int × Int)) (l r : List Int) (w : World) (h : PairsAt w v ps) (hpl : ps.length ≤ 1000) (h1 : IL w v1 l) (h2 : IL w v2 r) (hll : l.length ≤ 1000) (hrl : r.length ≤ 1000) :
    Calls Try.prog 19 #[.agg #[.int .i64 n, v], v1, v2] w fun e w' => e = .returned (.int .i64 (chkF n ps l r)) ∧ Below w.heap.size w w' := by
  have hgr := bgrow w (.cells #[.int .i64 n, v] 27)
  have HG := hidIt (h.below hgr)
  have H1 := hidIt (h1.below hgr)
  have H2 := hidIt (h2.below hgr)
  obtain ⟨a, c, rfl, -⟩ := h.pc
  obtain ⟨a1, c1, rfl, -⟩ := h1.ic
  obtain ⟨a2, c2, rfl, -⟩ := h2.ic
  have HX := hidIt (heap_alloc_new w (.cells #[.int .i64 n, .slice a ps.length c] 27))
  have HB := hidIt hgr
  have HC : Hid (chkF n ps l r = if valE n ps ≠ 0 then 1 else if validB n.toNat l = false ∨ r.length ≠ n.toNat then 4 else if compB n.toNat ps l = false then 7 else if provB n.toNat ps l r = false then 11 else 0) := (rfl : _ = _)
  generalize chkF n ps l r = CH at *
  clear h h1 h2 hgr
  go_enter Try.func19, Try.ntmps19
  go_upto_region 1 with (fail)
  generalize (w.alloc (.cells #[.int .i64 n, .slice a ps.length c] 27)) = w1 at *
  generalize w.heap.size = P at HX ⊢
  obtain ⟨x0, x1⟩ := And.intro (cell_two0 HX.out) (cell_two1 HX.out)
  have lx := lt_of_block HX.out
  go_wp2_with fail
  refine (rgValidate_any n _ ps w1 HG.out (by omega)).mono ?_
  by_cases hv : valE n ps = 0
  rotate_left
  · have HE : Hid (CH = 1) := HC.out.trans (if_pos hv)
    have hvb : (valE n ps != 0) = true := bne_iff_ne.2 hv
    generalize valE n ps = ve at *
    rintro e w3 ⟨rfl, hb3⟩
    have HB3 := hidIt (HB.out.trans (Below.mono hb3 HB.out.size))
    clear hb3
    go_wp2_with fail
    go_ret
    exact ⟨by rw [HE.out]; rfl, HB3.out⟩
  rw [hv]
  have HOK := hidIt (valE_ok hv)
  obtain ⟨N, rfl⟩ : ∃ N : Nat, n = (N : Int) := ⟨n.toNat, by have := HOK.out.n0; omega⟩
  rw [if_neg (fun h => h hv), Int.toNat_natCast] at HC
  rintro e w3 ⟨rfl, hb3⟩
  have HX3 := hidIt (blk_kept2 HX.out hb3)
  have HB3 := hidIt (HB.out.trans (Below.mono hb3 HB.out.size))
  have HG3 := hidIt (HG.out.below hb3)
  have H13 := hidIt (H1.out.below hb3)
  have H23 := hidIt (H2.out.below hb3)
  clear hb3 HB HX HG H1 H2 x0 x1 lx hv
  obtain ⟨x0, x1⟩ := And.intro (cell_two0 HX3.out) (cell_two1 HX3.out)
  have lx := lt_of_block HX3.out
  have hN40 : N ≤ 40 := by have := HOK.out.n40; omega
  have HVAL := hidIt (rlValid_any N _ _ ps l w3 HG3.out H13.out hll)
  cases hvl : validB N l
  · have HE : Hid (CH = 4) := HC.out.trans (if_pos (.inl hvl))
    rw [hvl] at HVAL
    clear hvl
    go_wp2_with fail
    refine HVAL.out.mono ?_
    rintro e w4 ⟨rfl, hb4⟩
    have HB4 := hidIt (HB3.out.trans (Below.mono hb4 HB3.out.size))
    clear hb4
    go_wp2_with fail
    go_ret
    exact ⟨by rw [HE.out]; rfl, HB4.out⟩
  rw [hvl] at HVAL
  have HVL := hidIt (validB_iff.1 hvl)
  obtain ⟨R, hR⟩ : ∃ R, R = r.length := ⟨_, rfl⟩
  have HR := hidIt hR
  rw [← hR]
  by_cases hrn : R = N
  rotate_left
  · have HE : Hid (CH = 4) := HC.out.trans (if_pos (.inr (by rw [← hR]; exact hrn)))
    have hrb : ((R : Int) != (N : Int)) = true := bne_iff_ne.2 (by omega)
    clear hvl hR
    go_wp2_with fail
    refine HVAL.out.mono ?_
    rintro e w4 ⟨rfl, hb4⟩
    have HX4 := hidIt (blk_kept2 HX3.out hb4)
    have HB4 := hidIt (HB3.out.trans (Below.mono hb4 HB3.out.size))
    clear hb4 x0 x1 lx
    obtain ⟨x0, x1⟩ := And.intro (cell_two0 HX4.out) (cell_two1 HX4.out)
    have lx := lt_of_block HX4.out
    go_wp2_with fail
    go_ret
    exact ⟨by rw [HE.out]; rfl, HB4.out⟩
  subst hrn
  have HC2 := hidIt (HC.out.trans (if_neg (fun h => by rcases h with h | h; rw [hvl] at h; cases h; exact h (by rw [← hR]))))
  have hrb : ((R : Int) != (R : Int)) = false := bne_self_eq_false _
  clear hvl hR HC
  go_wp2_with fail
  refine HVAL.out.mono ?_
  rintro e w4 ⟨rfl, hb4⟩
  have HX4 := hidIt (blk_kept2 HX3.out hb4)
  have HB4 := hidIt (HB3.out.trans (Below.mono hb4 HB3.out.size))
  have HG4 := hidIt (HG3.out.below hb4)
  have H14 := hidIt (H13.out.below hb4)
  have H24 := hidIt (H23.out.below hb4)
  clear hb4 HB3 HX3 HG3 H13 H23 x0 x1 lx HVAL
  obtain ⟨x0, x1⟩ := And.intro (cell_two0 HX4.out) (cell_two1 HX4.out)
  have lx := lt_of_block HX4.out
  have HCOM := hidIt (rlIsComplete_any R _ _ ps l w4 HG4.out HOK.out hpl H14.out hll)
  change Hid (Calls _ _ _ _ fun e w' => e = .returned (.bool (compB R ps l)) ∧ _) at HCOM
  cases hcp : compB R ps l
  · have HE : Hid (CH = 7) := HC2.out.trans (if_pos hcp)
    rw [hcp] at HCOM
    clear hcp
    go_wp2_with fail
    refine HCOM.out.mono ?_
    rintro e w5 ⟨rfl, hb5⟩
    have HB5 := hidIt (HB4.out.trans (Below.mono hb5 HB4.out.size))
    clear hb5
    go_wp2_with fail
    go_ret
    exact ⟨by rw [HE.out]; rfl, HB5.out⟩
  rw [hcp] at HCOM
  have HC3 := hidIt (HC2.out.trans (if_neg (by rw [hcp]; decide)))
  clear hcp HC2
  go_wp2_with fail
  refine HCOM.out.mono ?_
  rintro e w5 ⟨rfl, hb5⟩
  have HX5 := hidIt (blk_kept2 HX4.out hb5)
  have HB5 := hidIt (HB4.out.trans (Below.mono hb5 HB4.out.size))
  have HG5 := hidIt (HG4.out.below hb5)
  have H15 := hidIt (H14.out.below hb5)
  have H25 := hidIt (H24.out.below hb5)
  clear hb5 HB4 HX4 HG4 H14 H24 x0 x1 lx HCOM
  obtain ⟨x0, x1⟩ := And.intro (cell_two0 HX5.out) (cell_two1 HX5.out)
  have lx := lt_of_block HX5.out
  have HPN := hidIt (prov_nodes (r := r) HOK.out.ix HVL.out.1 HVL.out.2)
  have HLO := hidIt HVL.out.2
  have HLL := hidIt HVL.out.1
  have HRL := hidIt HR.out.symm
  obtain ⟨a1', c1', he1, hic⟩ := H15.out.ic
  injection he1 with he1
  subst he1
  obtain ⟨a2', c2', he2, hjc⟩ := H25.out.ic
  injection he2 with he2
  subst he2
  have HIC := hidIt hic
  have HJC := hidIt hjc
  clear hic hjc
  rw [HLL.out]
  go_wp2_with fail
  clear x0 x1 lx
  go_loopw [7, 8, 10, 58] (fun v7 _ _ _ wr => ∃ i : Nat, i ≤ R ∧ v7 = .int .i64 i ∧ Hid (∀ j, j < i → nodeOk ps l r j) ∧ Hid (Below w5.heap.size w5 wr)) (fun v7 _ _ _ _ => R - (intOf v7).toNat)
  case atStart => exact ⟨0, Nat.zero_le _, (by first | rfl | trivial), (fun j hj => absurd hj (Nat.not_lt_zero _)), Below.refl _ _⟩
  case round =>
    obtain ⟨i, hi, rfl, HNO, HBr⟩ := hrel
    have hi0 : (0 : Int) ≤ (i : Int) := by omega
    have HXr := hidIt (blk_kept2 HX5.out HBr.out)
    obtain ⟨x0, x1⟩ := And.intro (cell_two0 HXr.out) (cell_two1 HXr.out)
    have lx := lt_of_block HXr.out
    by_cases hlt : i < R
    · have hiI : (i : Int) < (R : Int) := by omega
      have hil : i < l.length := by have := HLL.out; omega
      have hir : i < r.length := by have := HRL.out; omega
      obtain ⟨bl, ol, rfl, ll1, hcl⟩ := (HIC.out.go HBr.out).at_ hil
      obtain ⟨br, or, rfl, lr1, hcr⟩ := (HJC.out.go HBr.out).at_ hir
      have HCL := hidIt hcl
      have HCR := hidIt hcr
      have qi := hcl i hil
      have si := hcr i hir
      have hlab := HLO.out l[i] (List.getElem_mem hil)
      rw [← getD_at hil] at qi hlab
      rw [← getD_at hir] at si
      obtain ⟨fb, hfb⟩ : ∃ fb : Int → Bool, fb = fun x => badP l r (x, (i : Int)) := ⟨_, rfl⟩
      obtain ⟨fd, hfd⟩ : ∃ fd : Int → Bool, fd = fun x => defB l r (x, (i : Int)) := ⟨_, rfl⟩
      obtain ⟨As, hAs⟩ : ∃ As, As = inL ps (i : Int) := ⟨_, rfl⟩
      have HNODE : Hid (nodeOk ps l r i ↔ ((decide (l.getD i 0 = 3) || (decide (l.getD i 0 = 1) && decide (1 ≤ r.getD i 0))) || (decide (l.getD i 0 = 2) && As.any fd)) = true ∧ As.any fb = false) := by
        show _ ↔ _
        rw [hAs, hfb, hfd]
        exact Iff.rfl
      have HFB : Hid (∀ x : Nat, fb (x : Int) = (decide (l.getD i 0 = 1) && decide (r.getD i 0 ≤ r.getD x 0))) := fun x => by
        rw [hfb]
        unfold badP
        simp only [Int.toNat_natCast]
      have HFD : Hid (∀ x : Nat, fd (x : Int) = (decide (l.getD x 0 = 1) && (decide (1 ≤ r.getD x 0) && decide (r.getD x 0 ≤ r.getD i 0)))) := fun x => by
        rw [hfd]
        unfold defB
        simp only [Int.toNat_natCast]
      have HAS : Hid (∀ x ∈ As, ∃ k : Nat, x = (k : Int) ∧ k < R) := fun x hx => by
        rw [hAs] at hx
        have := HOK.out.ix _ (mem_inLv.1 hx)
        simp only at this
        exact ⟨x.toNat, by omega, by omega⟩
      have HASL : Hid (As.length ≤ 1000) := by
        show _ ≤ _
        rw [hAs]
        exact Nat.le_trans (inL_short _ _) hpl
      have HNX : Hid (nodeOk ps l r i → ∀ j, j < i + 1 → nodeOk ps l r j) := fun h j hj => by
        by_cases e : j = i
        · rw [e]; exact h
        · exact HNO.out j (by omega)
      have HBADN : Hid (¬ nodeOk ps l r i → CH = 11) := fun h => HC3.out.trans (if_pos (by
        cases hpv : provB R ps l r
        · rfl
        · exact absurd (HPN.out.1 hpv i hlt) h))
      have HAT := hidIt (rgAttackers2_any (R : Int) _ ps (i : Int) wr (HG5.out.below HBr.out) (by omega))
      rw [vL_of HOK.out, ← hAs] at HAT
      have HLI : Hid (∀ h : i < l.length, l[i] = l.getD i 0) := fun h => (getD_at h).symm
      have HRI : Hid (∀ h : i < r.length, r[i] = r.getD i 0) := fun h => (getD_at h).symm
      have HBw := hidIt (HB5.out.trans (Below.mono HBr.out HB5.out.size))
      clear hcl hcr hfb hfd hAs hil hir
      generalize l.getD i 0 = li at *
      generalize r.getD i 0 = ri at *
      have hcase : li = 3 ∨ (li = 1 ∧ 1 ≤ ri) ∨ (li = 1 ∧ ¬ 1 ≤ ri) ∨ li = 2 := by
        rcases hlab with h | h | h
        · by_cases h2 : 1 ≤ ri
          · exact .inr (.inl ⟨h, h2⟩)
          · exact .inr (.inr (.inl ⟨h, h2⟩))
        · exact .inr (.inr (.inr h))
        · exact .inl h
      clear hlab
      rcases hcase with rfl | ⟨rfl, h1ri⟩ | ⟨rfl, h1ri⟩ | rfl
      · go_wp2_with fail
        refine HAT.out.mono ?_
        rintro e w6 ⟨va, rfl, hoi, hb6⟩
        obtain ⟨aa, ac, rfl, hia⟩ := hoi.il.ic
        have HIA := hidIt hia
        have HBwr := hidIt hb6
        have HB6 := hidIt (HBw.out.trans (Below.mono hb6 HBw.out.size))
        have HB56 := hidIt (HBr.out.trans (Below.mono hb6 HBr.out.size))
        obtain ⟨M, hM⟩ : ∃ M, M = As.length := ⟨_, rfl⟩
        have HM := hidIt hM
        rw [← hM]
        have hM1 : M ≤ 1000 := by have := HASL.out; omega
        clear hM hoi hia hb6 qi si x0 x1 lx HAT
        go_wp2_with fail
        go_loopw [8, 10, 58] (fun v8 _ v58 wq => ∃ q : Nat, q ≤ M ∧ v58 = .int .i64 q ∧ v8 = .bool true ∧ Hid ((As.take q).any fb = false) ∧ Hid (Below w6.heap.size w6 wq)) (fun _ _ v58 _ => M - (intOf v58).toNat)
        case atStart => exact ⟨0, Nat.zero_le _, (by first | rfl | trivial), (by first | rfl | trivial), (rfl : _ = _), Below.refl _ _⟩
        case round =>
          obtain ⟨q, hq, rfl, rfl, HNB, HBq⟩ := hrel
          have hq0 : (0 : Int) ≤ (q : Int) := by omega
          by_cases hqM : q < M
          · have hqI : (q : Int) < (M : Int) := by omega
            have hqr : q < As.length := by have := HM.out; omega
            obtain ⟨b1, o1, rfl, l1, hc1⟩ := (HIA.out.go HBq.out).at_ hqr
            have p0 := hc1 q hqr
            obtain ⟨x, hxe, hxN⟩ := HAS.out As[q] (List.getElem_mem hqr)
            have HTK := hidIt (any_takeS hqr fb)
            have HTD := hidIt (any_takeS hqr fd)
            have HMEM : Hid (As[q] ∈ As) := List.getElem_mem hqr
            rw [hxe] at p0 HTK HTD HMEM
            have HBE := hidIt (HFB.out x)
            have HDE := hidIt (HFD.out x)
            have hx0 : (0 : Int) ≤ (x : Int) := by omega
            have hxI : (x : Int) < (R : Int) := by omega
            have hxl : x < l.length := by have := HLL.out; omega
            have hxr : x < r.length := by have := HRL.out; omega
            have hil : i < l.length := by have := HLL.out; omega
            have hir : i < r.length := by have := HRL.out; omega
            have hbb := HBwr.out.trans (Below.mono HBq.out HBwr.out.size)
            have lx0 := (Below.cell (p := ⟨bl, ol + x, none⟩) hbb ll1).trans (HCL.out x hxl)
            have li0 := (Below.cell (p := ⟨bl, ol + i, none⟩) hbb ll1).trans (HCL.out i hil)
            have rx0 := (Below.cell (p := ⟨br, or + x, none⟩) hbb lr1).trans (HCR.out x hxr)
            have ri0 := (Below.cell (p := ⟨br, or + i, none⟩) hbb lr1).trans (HCR.out i hir)
            have lb0 := Nat.lt_of_lt_of_le ll1 hbb.size
            have rb0 := Nat.lt_of_lt_of_le lr1 hbb.size
            rw [HLI.out] at li0
            rw [HRI.out] at ri0
            rw [getD_at hxl, getD_at hxr] at HDE
            rw [getD_at hxr] at HBE
            generalize l[x] = lx at *
            generalize r[x] = rx at *
            clear hc1 hxl hxr hil hir hqr hxe hbb
            have HNB2 : Hid ((As.take (q + 1)).any fb = false) := by
              show _ = _
              rw [HTK.out, HNB.out, HBE.out]; rfl
            go_wp2_with fail
            go_quiet (fail)
            have HB2 := hidIt (HBq.out.trans (below_drewNV _ nq _))
            have lx1 : (wr.drewN nq).cell? ⟨bl, ol + x, none⟩ = some (.int .i64 lx) := lx0
            have li1 : (wr.drewN nq).cell? ⟨bl, ol + i, none⟩ = some (.int .i64 3) := li0
            have rx1 : (wr.drewN nq).cell? ⟨br, or + x, none⟩ = some (.int .i64 rx) := rx0
            have ri1 : (wr.drewN nq).cell? ⟨br, or + i, none⟩ = some (.int .i64 ri) := ri0
            have lb1 : bl < (wr.drewN nq).heap.size := lb0
            have rb1 : br < (wr.drewN nq).heap.size := rb0
            clear lx0 li0 rx0 ri0 lb0 rb0 HBq p0 l1
            generalize wr.drewN nq = w7 at *
            go_wp2_with fail
            go_quiet (fail)
            have HB3 := hidIt (HB2.out.trans (below_drewNV _ nq _))
            go_wp2_with fail
            go_roundw
            case rel => exact ⟨q + 1, by omega, by go_num, (by first | rfl | trivial), HNB2.out, HB3.out⟩
            case measure => simp [intOf]; omega

          · obtain rfl : q = M := by omega
            have hqI : ¬ (q : Int) < (q : Int) := by omega
            have HNBT : Hid (As.any fb = false) := by
              have h := HNB.out
              rwa [List.take_of_length_le (by have := HM.out; omega)] at h
            have HB5q := hidIt (HB56.out.trans (Below.mono HBq.out HB56.out.size))
            have HBE2 := hidIt (HB6.out.trans (Below.mono HBq.out HB6.out.size))
            have HNEW := hidIt (HNX.out (HNODE.out.2 ⟨rfl, HNBT.out⟩))
            go_wp2_with fail
            go_roundw
            case rel => exact ⟨i + 1, by omega, by go_num, HNEW.out, HB5q.out⟩
            case measure => simp [intOf]; omega
      · go_wp2_with fail
        refine HAT.out.mono ?_
        rintro e w6 ⟨va, rfl, hoi, hb6⟩
        obtain ⟨aa, ac, rfl, hia⟩ := hoi.il.ic
        have HIA := hidIt hia
        have HBwr := hidIt hb6
        have HB6 := hidIt (HBw.out.trans (Below.mono hb6 HBw.out.size))
        have HB56 := hidIt (HBr.out.trans (Below.mono hb6 HBr.out.size))
        obtain ⟨M, hM⟩ : ∃ M, M = As.length := ⟨_, rfl⟩
        have HM := hidIt hM
        rw [← hM]
        have hM1 : M ≤ 1000 := by have := HASL.out; omega
        clear hM hoi hia hb6 qi si x0 x1 lx HAT
        go_wp2_with fail
        go_loopw [8, 10, 58] (fun v8 _ v58 wq => ∃ q : Nat, q ≤ M ∧ v58 = .int .i64 q ∧ v8 = .bool true ∧ Hid ((As.take q).any fb = false) ∧ Hid (Below w6.heap.size w6 wq)) (fun _ _ v58 _ => M - (intOf v58).toNat)
        case atStart => exact ⟨0, Nat.zero_le _, (by first | rfl | trivial), (by first | rfl | trivial), (rfl : _ = _), Below.refl _ _⟩
        case round =>
          obtain ⟨q, hq, rfl, rfl, HNB, HBq⟩ := hrel
          have hq0 : (0 : Int) ≤ (q : Int) := by omega
          by_cases hqM : q < M
          · have hqI : (q : Int) < (M : Int) := by omega
            have hqr : q < As.length := by have := HM.out; omega
            obtain ⟨b1, o1, rfl, l1, hc1⟩ := (HIA.out.go HBq.out).at_ hqr
            have p0 := hc1 q hqr
            obtain ⟨x, hxe, hxN⟩ := HAS.out As[q] (List.getElem_mem hqr)
            have HTK := hidIt (any_takeS hqr fb)
            have HTD := hidIt (any_takeS hqr fd)
            have HMEM : Hid (As[q] ∈ As) := List.getElem_mem hqr
            rw [hxe] at p0 HTK HTD HMEM
            have HBE := hidIt (HFB.out x)
            have HDE := hidIt (HFD.out x)
            have hx0 : (0 : Int) ≤ (x : Int) := by omega
            have hxI : (x : Int) < (R : Int) := by omega
            have hxl : x < l.length := by have := HLL.out; omega
            have hxr : x < r.length := by have := HRL.out; omega
            have hil : i < l.length := by have := HLL.out; omega
            have hir : i < r.length := by have := HRL.out; omega
            have hbb := HBwr.out.trans (Below.mono HBq.out HBwr.out.size)
            have lx0 := (Below.cell (p := ⟨bl, ol + x, none⟩) hbb ll1).trans (HCL.out x hxl)
            have li0 := (Below.cell (p := ⟨bl, ol + i, none⟩) hbb ll1).trans (HCL.out i hil)
            have rx0 := (Below.cell (p := ⟨br, or + x, none⟩) hbb lr1).trans (HCR.out x hxr)
            have ri0 := (Below.cell (p := ⟨br, or + i, none⟩) hbb lr1).trans (HCR.out i hir)
            have lb0 := Nat.lt_of_lt_of_le ll1 hbb.size
            have rb0 := Nat.lt_of_lt_of_le lr1 hbb.size
            rw [HLI.out] at li0
            rw [HRI.out] at ri0
            rw [getD_at hxl, getD_at hxr] at HDE
            rw [getD_at hxr] at HBE
            generalize l[x] = lx at *
            generalize r[x] = rx at *
            clear hc1 hxl hxr hil hir hqr hxe hbb
            by_cases hle : ri ≤ rx
            · have hnn : ¬ nodeOk ps l r i := fun h => by
                have h2 := (HNODE.out.1 h).2
                have h3 : As.any fb = true := List.any_eq_true.2 ⟨(x : Int), HMEM.out, by rw [HBE.out, decide_eq_true hle]; rfl⟩
                rw [h3] at h2; cases h2
              have HE := hidIt (HBADN.out hnn)
              clear hnn
              go_wp2_with fail
              go_quiet (fail)
              have HB2 := hidIt (HB6.out.trans (Below.mono (HBq.out.trans (below_drewNV _ nq _)) HB6.out.size))
              go_wp2_with fail
              go_ret
              exact ⟨by rw [HE.out]; rfl, HB2.out⟩
            · have HNB2 : Hid ((As.take (q + 1)).any fb = false) := by
                show _ = _
                rw [HTK.out, HNB.out, HBE.out]
                rw [decide_eq_false hle]; rfl
              go_wp2_with fail
              go_quiet (fail)
              have HB2 := hidIt (HBq.out.trans (below_drewNV _ nq _))
              have lx1 : (wr.drewN nq).cell? ⟨bl, ol + x, none⟩ = some (.int .i64 lx) := lx0
              have li1 : (wr.drewN nq).cell? ⟨bl, ol + i, none⟩ = some (.int .i64 1) := li0
              have rx1 : (wr.drewN nq).cell? ⟨br, or + x, none⟩ = some (.int .i64 rx) := rx0
              have ri1 : (wr.drewN nq).cell? ⟨br, or + i, none⟩ = some (.int .i64 ri) := ri0
              have lb1 : bl < (wr.drewN nq).heap.size := lb0
              have rb1 : br < (wr.drewN nq).heap.size := rb0
              clear lx0 li0 rx0 ri0 lb0 rb0 HBq p0 l1
              generalize wr.drewN nq = w7 at *
              go_wp2_with fail
              go_quiet (fail)
              have HB3 := hidIt (HB2.out.trans (below_drewNV _ nq _))
              go_wp2_with fail
              go_roundw
              case rel => exact ⟨q + 1, by omega, by go_num, (by first | rfl | trivial), HNB2.out, HB3.out⟩
              case measure => simp [intOf]; omega

          · obtain rfl : q = M := by omega
            have hqI : ¬ (q : Int) < (q : Int) := by omega
            have HNBT : Hid (As.any fb = false) := by
              have h := HNB.out
              rwa [List.take_of_length_le (by have := HM.out; omega)] at h
            have HB5q := hidIt (HB56.out.trans (Below.mono HBq.out HB56.out.size))
            have HBE2 := hidIt (HB6.out.trans (Below.mono HBq.out HB6.out.size))
            have HNEW := hidIt (HNX.out (HNODE.out.2 ⟨by rw [decide_eq_true h1ri]; rfl, HNBT.out⟩))
            go_wp2_with fail
            go_roundw
            case rel => exact ⟨i + 1, by omega, by go_num, HNEW.out, HB5q.out⟩
            case measure => simp [intOf]; omega
      · go_wp2_with fail
        refine HAT.out.mono ?_
        rintro e w6 ⟨va, rfl, hoi, hb6⟩
        obtain ⟨aa, ac, rfl, hia⟩ := hoi.il.ic
        have HIA := hidIt hia
        have HBwr := hidIt hb6
        have HB6 := hidIt (HBw.out.trans (Below.mono hb6 HBw.out.size))
        have HB56 := hidIt (HBr.out.trans (Below.mono hb6 HBr.out.size))
        obtain ⟨M, hM⟩ : ∃ M, M = As.length := ⟨_, rfl⟩
        have HM := hidIt hM
        rw [← hM]
        have hM1 : M ≤ 1000 := by have := HASL.out; omega
        clear hM hoi hia hb6 qi si x0 x1 lx HAT
        go_wp2_with fail
        go_loopw [8, 10, 58] (fun v8 _ v58 wq => ∃ q : Nat, q ≤ M ∧ v58 = .int .i64 q ∧ v8 = .bool false ∧ Hid ((As.take q).any fb = false) ∧ Hid (Below w6.heap.size w6 wq)) (fun _ _ v58 _ => M - (intOf v58).toNat)
        case atStart => exact ⟨0, Nat.zero_le _, (by first | rfl | trivial), (by first | rfl | trivial), (rfl : _ = _), Below.refl _ _⟩
        case round =>
          obtain ⟨q, hq, rfl, rfl, HNB, HBq⟩ := hrel
          have hq0 : (0 : Int) ≤ (q : Int) := by omega
          by_cases hqM : q < M
          · have hqI : (q : Int) < (M : Int) := by omega
            have hqr : q < As.length := by have := HM.out; omega
            obtain ⟨b1, o1, rfl, l1, hc1⟩ := (HIA.out.go HBq.out).at_ hqr
            have p0 := hc1 q hqr
            obtain ⟨x, hxe, hxN⟩ := HAS.out As[q] (List.getElem_mem hqr)
            have HTK := hidIt (any_takeS hqr fb)
            have HTD := hidIt (any_takeS hqr fd)
            have HMEM : Hid (As[q] ∈ As) := List.getElem_mem hqr
            rw [hxe] at p0 HTK HTD HMEM
            have HBE := hidIt (HFB.out x)
            have HDE := hidIt (HFD.out x)
            have hx0 : (0 : Int) ≤ (x : Int) := by omega
            have hxI : (x : Int) < (R : Int) := by omega
            have hxl : x < l.length := by have := HLL.out; omega
            have hxr : x < r.length := by have := HRL.out; omega
            have hil : i < l.length := by have := HLL.out; omega
            have hir : i < r.length := by have := HRL.out; omega
            have hbb := HBwr.out.trans (Below.mono HBq.out HBwr.out.size)
            have lx0 := (Below.cell (p := ⟨bl, ol + x, none⟩) hbb ll1).trans (HCL.out x hxl)
            have li0 := (Below.cell (p := ⟨bl, ol + i, none⟩) hbb ll1).trans (HCL.out i hil)
            have rx0 := (Below.cell (p := ⟨br, or + x, none⟩) hbb lr1).trans (HCR.out x hxr)
            have ri0 := (Below.cell (p := ⟨br, or + i, none⟩) hbb lr1).trans (HCR.out i hir)
            have lb0 := Nat.lt_of_lt_of_le ll1 hbb.size
            have rb0 := Nat.lt_of_lt_of_le lr1 hbb.size
            rw [HLI.out] at li0
            rw [HRI.out] at ri0
            rw [getD_at hxl, getD_at hxr] at HDE
            rw [getD_at hxr] at HBE
            generalize l[x] = lx at *
            generalize r[x] = rx at *
            clear hc1 hxl hxr hil hir hqr hxe hbb
            by_cases hle : ri ≤ rx
            · have hnn : ¬ nodeOk ps l r i := fun h => by
                have h2 := (HNODE.out.1 h).2
                have h3 : As.any fb = true := List.any_eq_true.2 ⟨(x : Int), HMEM.out, by rw [HBE.out, decide_eq_true hle]; rfl⟩
                rw [h3] at h2; cases h2
              have HE := hidIt (HBADN.out hnn)
              clear hnn
              go_wp2_with fail
              go_quiet (fail)
              have HB2 := hidIt (HB6.out.trans (Below.mono (HBq.out.trans (below_drewNV _ nq _)) HB6.out.size))
              go_wp2_with fail
              go_ret
              exact ⟨by rw [HE.out]; rfl, HB2.out⟩
            · have HNB2 : Hid ((As.take (q + 1)).any fb = false) := by
                show _ = _
                rw [HTK.out, HNB.out, HBE.out]
                rw [decide_eq_false hle]; rfl
              go_wp2_with fail
              go_quiet (fail)
              have HB2 := hidIt (HBq.out.trans (below_drewNV _ nq _))
              have lx1 : (wr.drewN nq).cell? ⟨bl, ol + x, none⟩ = some (.int .i64 lx) := lx0
              have li1 : (wr.drewN nq).cell? ⟨bl, ol + i, none⟩ = some (.int .i64 1) := li0
              have rx1 : (wr.drewN nq).cell? ⟨br, or + x, none⟩ = some (.int .i64 rx) := rx0
              have ri1 : (wr.drewN nq).cell? ⟨br, or + i, none⟩ = some (.int .i64 ri) := ri0
              have lb1 : bl < (wr.drewN nq).heap.size := lb0
              have rb1 : br < (wr.drewN nq).heap.size := rb0
              clear lx0 li0 rx0 ri0 lb0 rb0 HBq p0 l1
              generalize wr.drewN nq = w7 at *
              go_wp2_with fail
              go_quiet (fail)
              have HB3 := hidIt (HB2.out.trans (below_drewNV _ nq _))
              go_wp2_with fail
              go_roundw
              case rel => exact ⟨q + 1, by omega, by go_num, (by first | rfl | trivial), HNB2.out, HB3.out⟩
              case measure => simp [intOf]; omega

          · obtain rfl : q = M := by omega
            have hqI : ¬ (q : Int) < (q : Int) := by omega
            have HNBT : Hid (As.any fb = false) := by
              have h := HNB.out
              rwa [List.take_of_length_le (by have := HM.out; omega)] at h
            have HB5q := hidIt (HB56.out.trans (Below.mono HBq.out HB56.out.size))
            have HBE2 := hidIt (HB6.out.trans (Below.mono HBq.out HB6.out.size))
            have HE := hidIt (HBADN.out (fun h => by
              have h2 := (HNODE.out.1 h).1
              rw [decide_eq_false (by omega : ¬ 1 ≤ ri)] at h2; cases h2))
            go_wp2_with fail
            go_ret
            exact ⟨by rw [HE.out]; rfl, HBE2.out⟩
      · go_wp2_with fail
        refine HAT.out.mono ?_
        rintro e w6 ⟨va, rfl, hoi, hb6⟩
        obtain ⟨aa, ac, rfl, hia⟩ := hoi.il.ic
        have HIA := hidIt hia
        have HBwr := hidIt hb6
        have HB6 := hidIt (HBw.out.trans (Below.mono hb6 HBw.out.size))
        have HB56 := hidIt (HBr.out.trans (Below.mono hb6 HBr.out.size))
        obtain ⟨M, hM⟩ : ∃ M, M = As.length := ⟨_, rfl⟩
        have HM := hidIt hM
        rw [← hM]
        have hM1 : M ≤ 1000 := by have := HASL.out; omega
        clear hM hoi hia hb6 qi si x0 x1 lx HAT
        go_wp2_with fail
        go_loopw [8, 10, 58] (fun v8 _ v58 wq => ∃ q : Nat, q ≤ M ∧ v58 = .int .i64 q ∧ v8 = .bool ((As.take q).any fd) ∧ Hid ((As.take q).any fb = false) ∧ Hid (Below w6.heap.size w6 wq)) (fun _ _ v58 _ => M - (intOf v58).toNat)
        case atStart => exact ⟨0, Nat.zero_le _, (by first | rfl | trivial), (by first | rfl | trivial), (rfl : _ = _), Below.refl _ _⟩
        case round =>
          obtain ⟨q, hq, rfl, rfl, HNB, HBq⟩ := hrel
          have hq0 : (0 : Int) ≤ (q : Int) := by omega
          by_cases hqM : q < M
          · have hqI : (q : Int) < (M : Int) := by omega
            have hqr : q < As.length := by have := HM.out; omega
            obtain ⟨b1, o1, rfl, l1, hc1⟩ := (HIA.out.go HBq.out).at_ hqr
            have p0 := hc1 q hqr
            obtain ⟨x, hxe, hxN⟩ := HAS.out As[q] (List.getElem_mem hqr)
            have HTK := hidIt (any_takeS hqr fb)
            have HTD := hidIt (any_takeS hqr fd)
            have HMEM : Hid (As[q] ∈ As) := List.getElem_mem hqr
            rw [hxe] at p0 HTK HTD HMEM
            have HBE := hidIt (HFB.out x)
            have HDE := hidIt (HFD.out x)
            have hx0 : (0 : Int) ≤ (x : Int) := by omega
            have hxI : (x : Int) < (R : Int) := by omega
            have hxl : x < l.length := by have := HLL.out; omega
            have hxr : x < r.length := by have := HRL.out; omega
            have hil : i < l.length := by have := HLL.out; omega
            have hir : i < r.length := by have := HRL.out; omega
            have hbb := HBwr.out.trans (Below.mono HBq.out HBwr.out.size)
            have lx0 := (Below.cell (p := ⟨bl, ol + x, none⟩) hbb ll1).trans (HCL.out x hxl)
            have li0 := (Below.cell (p := ⟨bl, ol + i, none⟩) hbb ll1).trans (HCL.out i hil)
            have rx0 := (Below.cell (p := ⟨br, or + x, none⟩) hbb lr1).trans (HCR.out x hxr)
            have ri0 := (Below.cell (p := ⟨br, or + i, none⟩) hbb lr1).trans (HCR.out i hir)
            have lb0 := Nat.lt_of_lt_of_le ll1 hbb.size
            have rb0 := Nat.lt_of_lt_of_le lr1 hbb.size
            rw [HLI.out] at li0
            rw [HRI.out] at ri0
            rw [getD_at hxl, getD_at hxr] at HDE
            rw [getD_at hxr] at HBE
            generalize l[x] = lx at *
            generalize r[x] = rx at *
            clear hc1 hxl hxr hil hir hqr hxe hbb
            obtain ⟨dv, hdv⟩ : ∃ dv, dv = (As.take q).any fd := ⟨_, rfl⟩
            have HDV := hidIt hdv
            rw [← hdv]
            clear hdv
            cases dv
            · have hB : ((lx == 1) = false ∧ fd (x : Int) = false) ∨ (lx = 1 ∧ ¬ 1 ≤ rx ∧ fd (x : Int) = false) ∨ (lx = 1 ∧ 1 ≤ rx ∧ ¬ rx ≤ ri ∧ fd (x : Int) = false) ∨ (lx = 1 ∧ 1 ≤ rx ∧ rx ≤ ri ∧ fd (x : Int) = true) := by
                rw [HDE.out]
                by_cases e1 : lx = 1
                · by_cases e2 : 1 ≤ rx
                  · by_cases e3 : rx ≤ ri
                    · exact .inr (.inr (.inr ⟨e1, e2, e3, by rw [decide_eq_true e1, decide_eq_true e2, decide_eq_true e3]; rfl⟩))
                    · exact .inr (.inr (.inl ⟨e1, e2, e3, by rw [decide_eq_true e1, decide_eq_true e2, decide_eq_false e3]; rfl⟩))
                  · exact .inr (.inl ⟨e1, e2, by rw [decide_eq_true e1, decide_eq_false e2]; rfl⟩)
                · exact .inl ⟨beq_eq_false_iff_ne.2 e1, by rw [decide_eq_false e1]; rfl⟩
              clear HDE
              rcases hB with ⟨hb1, hd⟩ | ⟨rfl, hb1, hd⟩ | ⟨rfl, hb1, hb2, hd⟩ | ⟨rfl, hb1, hb2, hd⟩
              · have HV : Hid ((As.take (q + 1)).any fd = false) := by
                  show _ = _
                  rw [HTD.out, ← HDV.out, hd]
                  first | done | rfl
                clear hd
                have HNB2 : Hid ((As.take (q + 1)).any fb = false) := by
                  show _ = _
                  rw [HTK.out, HNB.out, HBE.out]; rfl
                go_wp2_with fail
                go_quiet (fail)
                have HB2 := hidIt (HBq.out.trans (below_drewNV _ nq _))
                have lx1 : (wr.drewN nq).cell? ⟨bl, ol + x, none⟩ = some (.int .i64 lx) := lx0
                have li1 : (wr.drewN nq).cell? ⟨bl, ol + i, none⟩ = some (.int .i64 2) := li0
                have rx1 : (wr.drewN nq).cell? ⟨br, or + x, none⟩ = some (.int .i64 rx) := rx0
                have ri1 : (wr.drewN nq).cell? ⟨br, or + i, none⟩ = some (.int .i64 ri) := ri0
                have lb1 : bl < (wr.drewN nq).heap.size := lb0
                have rb1 : br < (wr.drewN nq).heap.size := rb0
                clear lx0 li0 rx0 ri0 lb0 rb0 HBq p0 l1
                generalize wr.drewN nq = w7 at *
                go_wp2_with fail
                go_quiet (fail)
                have HB3 := hidIt (HB2.out.trans (below_drewNV _ nq _))
                go_wp2_with fail
                go_roundw
                case rel => exact ⟨q + 1, by omega, by go_num, by rw [HV.out]; first | done | rfl, HNB2.out, HB3.out⟩
                case measure => simp [intOf]; omega

              · have HV : Hid ((As.take (q + 1)).any fd = false) := by
                  show _ = _
                  rw [HTD.out, ← HDV.out, hd]
                  first | done | rfl
                clear hd
                have HNB2 : Hid ((As.take (q + 1)).any fb = false) := by
                  show _ = _
                  rw [HTK.out, HNB.out, HBE.out]; rfl
                go_wp2_with fail
                go_quiet (fail)
                have HB2 := hidIt (HBq.out.trans (below_drewNV _ nq _))
                have lx1 : (wr.drewN nq).cell? ⟨bl, ol + x, none⟩ = some (.int .i64 1) := lx0
                have li1 : (wr.drewN nq).cell? ⟨bl, ol + i, none⟩ = some (.int .i64 2) := li0
                have rx1 : (wr.drewN nq).cell? ⟨br, or + x, none⟩ = some (.int .i64 rx) := rx0
                have ri1 : (wr.drewN nq).cell? ⟨br, or + i, none⟩ = some (.int .i64 ri) := ri0
                have lb1 : bl < (wr.drewN nq).heap.size := lb0
                have rb1 : br < (wr.drewN nq).heap.size := rb0
                clear lx0 li0 rx0 ri0 lb0 rb0 HBq p0 l1
                generalize wr.drewN nq = w7 at *
                go_wp2_with fail
                have hb1' : ¬ (1 : Int) ≤ rx := by omega
                go_quiet (fail)
                have HB3 := hidIt (HB2.out.trans (below_drewNV _ nq _))
                go_wp2_with fail
                go_roundw
                case rel => exact ⟨q + 1, by omega, by go_num, by rw [HV.out]; first | done | rfl, HNB2.out, HB3.out⟩
                case measure => simp [intOf]; omega

              · have HV : Hid ((As.take (q + 1)).any fd = false) := by
                  show _ = _
                  rw [HTD.out, ← HDV.out, hd]
                  first | done | rfl
                clear hd
                have HNB2 : Hid ((As.take (q + 1)).any fb = false) := by
                  show _ = _
                  rw [HTK.out, HNB.out, HBE.out]; rfl
                go_wp2_with fail
                go_quiet (fail)
                have HB2 := hidIt (HBq.out.trans (below_drewNV _ nq _))
                have lx1 : (wr.drewN nq).cell? ⟨bl, ol + x, none⟩ = some (.int .i64 1) := lx0
                have li1 : (wr.drewN nq).cell? ⟨bl, ol + i, none⟩ = some (.int .i64 2) := li0
                have rx1 : (wr.drewN nq).cell? ⟨br, or + x, none⟩ = some (.int .i64 rx) := rx0
                have ri1 : (wr.drewN nq).cell? ⟨br, or + i, none⟩ = some (.int .i64 ri) := ri0
                have lb1 : bl < (wr.drewN nq).heap.size := lb0
                have rb1 : br < (wr.drewN nq).heap.size := rb0
                clear lx0 li0 rx0 ri0 lb0 rb0 HBq p0 l1
                generalize wr.drewN nq = w7 at *
                go_wp2_with fail
                have hb2' : ¬ rx ≤ ri := by omega
                go_quiet (fail)
                have HB3 := hidIt (HB2.out.trans (below_drewNV _ nq _))
                go_wp2_with fail
                go_roundw
                case rel => exact ⟨q + 1, by omega, by go_num, by rw [HV.out]; first | done | rfl, HNB2.out, HB3.out⟩
                case measure => simp [intOf]; omega

              · have HV : Hid ((As.take (q + 1)).any fd = true) := by
                  show _ = _
                  rw [HTD.out, ← HDV.out, hd]
                  first | done | rfl
                clear hd
                have HNB2 : Hid ((As.take (q + 1)).any fb = false) := by
                  show _ = _
                  rw [HTK.out, HNB.out, HBE.out]; rfl
                go_wp2_with fail
                go_quiet (fail)
                have HB2 := hidIt (HBq.out.trans (below_drewNV _ nq _))
                have lx1 : (wr.drewN nq).cell? ⟨bl, ol + x, none⟩ = some (.int .i64 1) := lx0
                have li1 : (wr.drewN nq).cell? ⟨bl, ol + i, none⟩ = some (.int .i64 2) := li0
                have rx1 : (wr.drewN nq).cell? ⟨br, or + x, none⟩ = some (.int .i64 rx) := rx0
                have ri1 : (wr.drewN nq).cell? ⟨br, or + i, none⟩ = some (.int .i64 ri) := ri0
                have lb1 : bl < (wr.drewN nq).heap.size := lb0
                have rb1 : br < (wr.drewN nq).heap.size := rb0
                clear lx0 li0 rx0 ri0 lb0 rb0 HBq p0 l1
                generalize wr.drewN nq = w7 at *
                go_wp2_with fail
                go_quiet (fail)
                have HB3 := hidIt (HB2.out.trans (below_drewNV _ nq _))
                go_wp2_with fail
                go_roundw
                case rel => exact ⟨q + 1, by omega, by go_num, by rw [HV.out]; first | done | rfl, HNB2.out, HB3.out⟩
                case measure => simp [intOf]; omega

            · have HV : Hid ((As.take (q + 1)).any fd = true) := by
                show _ = _
                rw [HTD.out, ← HDV.out]
                first | done | rfl
              have HNB2 : Hid ((As.take (q + 1)).any fb = false) := by
                show _ = _
                rw [HTK.out, HNB.out, HBE.out]; rfl
              go_wp2_with fail
              go_quiet (fail)
              have HB2 := hidIt (HBq.out.trans (below_drewNV _ nq _))
              have lx1 : (wr.drewN nq).cell? ⟨bl, ol + x, none⟩ = some (.int .i64 lx) := lx0
              have li1 : (wr.drewN nq).cell? ⟨bl, ol + i, none⟩ = some (.int .i64 2) := li0
              have rx1 : (wr.drewN nq).cell? ⟨br, or + x, none⟩ = some (.int .i64 rx) := rx0
              have ri1 : (wr.drewN nq).cell? ⟨br, or + i, none⟩ = some (.int .i64 ri) := ri0
              have lb1 : bl < (wr.drewN nq).heap.size := lb0
              have rb1 : br < (wr.drewN nq).heap.size := rb0
              clear lx0 li0 rx0 ri0 lb0 rb0 HBq p0 l1
              generalize wr.drewN nq = w7 at *
              go_wp2_with fail
              go_quiet (fail)
              have HB3 := hidIt (HB2.out.trans (below_drewNV _ nq _))
              go_wp2_with fail
              go_roundw
              case rel => exact ⟨q + 1, by omega, by go_num, by rw [HV.out]; first | done | rfl, HNB2.out, HB3.out⟩
              case measure => simp [intOf]; omega

          · obtain rfl : q = M := by omega
            have hqI : ¬ (q : Int) < (q : Int) := by omega
            have HNBT : Hid (As.any fb = false) := by
              have h := HNB.out
              rwa [List.take_of_length_le (by have := HM.out; omega)] at h
            have HB5q := hidIt (HB56.out.trans (Below.mono HBq.out HB56.out.size))
            have HBE2 := hidIt (HB6.out.trans (Below.mono HBq.out HB6.out.size))
            have HV : Hid ((As.take q).any fd = As.any fd) := by
              show _ = _
              rw [List.take_of_length_le (by have := HM.out; omega)]
            rw [HV.out]
            clear HV
            cases hfd : As.any fd
            · have HE := hidIt (HBADN.out (fun h => by
                have h2 := (HNODE.out.1 h).1
                rw [hfd] at h2; cases h2))
              go_wp2_with fail
              go_ret
              exact ⟨by rw [HE.out]; rfl, HBE2.out⟩
            · have HNEW := hidIt (HNX.out (HNODE.out.2 ⟨by rw [hfd]; rfl, HNBT.out⟩))
              go_wp2_with fail
              go_roundw
              case rel => exact ⟨i + 1, by omega, by go_num, HNEW.out, HB5q.out⟩
              case measure => simp [intOf]; omega
    · obtain rfl : i = R := by omega
      have hiI : ¬ (i : Int) < (i : Int) := by omega
      have HE : Hid (CH = 0) := HC3.out.trans (if_neg (by rw [HPN.out.2 HNO.out]; decide))
      have HBF := hidIt (HB5.out.trans (Below.mono HBr.out HB5.out.size))
      go_wp2_with fail
      go_ret
      exact ⟨by rw [HE.out]; rfl, HBF.out⟩
end Go.Proofs.Ytghnojmaciljoaa
