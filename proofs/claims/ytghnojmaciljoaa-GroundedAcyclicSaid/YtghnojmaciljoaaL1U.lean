/- The reference's Labellings: some short lists. -/
import Derived.Test.YtghnojmaciljoaaL1T
import Derived.Test.YtghnojmaciljoaaL1P
import Derived.Test.YtghnojmaciljoaaG1Dl
namespace Go.Proofs.Ytghnojmaciljoaa
set_option linter.unusedVariables false
set_option linter.unusedSimpArgs false
open Go Go.RowKit Go.Sort

theorem owns_shape {w : World} {B : Nat} {e : TypeId} {k : Nat} {v : Value} {n : Nat} {xs : List Value} (h : w.ownsRow B e k v n xs) : ∃ a c, v = .slice a n c := by
  rcases h.2 with ⟨rfl, rfl⟩ | ⟨g, cap, cur, rfl, -⟩
  · exact ⟨none, 0, rfl⟩
  · exact ⟨_, cap, rfl⟩
theorem Sh.snoc {zss : List (List Int)} {zs : List Int} (h : Sh zss) (hz : zs.length ≤ 60) : Sh (zss ++ [zs]) := fun i hi => by
  by_cases e : i < zss.length
  · rw [List.getElem_append_left e]; exact h i e
  · rw [List.getElem_append_right (by omega)]
    simp only [List.getElem_singleton]
    exact hz
/-- All lists are at most n long. -/
def ShN (n : Nat) (zss : List (List Int)) : Prop := ∀ i (h : i < zss.length), zss[i].length ≤ n
theorem ShN.snoc {n : Nat} {zss : List (List Int)} {zs : List Int} (h : ShN n zss) (hz : zs.length ≤ n) : ShN n (zss ++ [zs]) := fun i hi => by
  by_cases e : i < zss.length
  · rw [List.getElem_append_left e]; exact h i e
  · rw [List.getElem_append_right (by omega)]
    simp only [List.getElem_singleton]
    exact hz

set_option maxRecDepth 100000 in
set_option maxHeartbeats 4000000 in
theorem rlLabellings_any (n : Nat) (hn : n ≤ 6) (w : World) :
    Calls Try.prog 21 #[.int .i64 (n : Int)] w fun e w' => ∃ (zss : List (List Int)) (a : Option Addr) (c : Nat), e = .returned (.slice a zss.length c) ∧ LL w' (.slice a zss.length c) zss ∧ ShN n zss ∧ zss.length ≤ 729 ∧ Below w.heap.size w w' := by
  have hgr := bgrow w (.cells #[.slice none 0 0] 22)
  have HL0 : Hid (LL (w.alloc (.cells #[.slice none 0 0] 22)) (.slice (some ⟨w.heap.size, 0, none⟩) 1 1) [[]]) :=
    ll_blk (zss := [[]]) (heap_alloc_new w _) rfl (Nat.le_refl 1) (by decide) (fun i h1 h2 => by
      match i, h1 with
      | 0, _ => exact .inl ⟨rfl, rfl⟩)
  have HB0 := hidIt hgr
  clear hgr
  go_enter Try.func21, Try.ntmps21
  go_upto_region 2 with (fail)
  generalize (w.alloc (.cells #[.slice none 0 0] 22)) = w1 at *
  generalize hP : w.heap.size = P at HL0 ⊢
  have HP := hidIt hP
  clear hP
  go_wp2_with fail
  go_loopw [3, 4, 5, 6, 7] (fun v3 v4 _ _ _ wr => ∃ (i : Nat) (outs : List (List Int)) (a : Option Addr) (c : Nat), i ≤ n ∧ v4 = .int .i64 i ∧ v3 = .slice a outs.length c ∧ Hid (outs.length ≤ 3 ^ i) ∧ Hid (LL wr (.slice a outs.length c) outs) ∧ Hid (ShN i outs) ∧ Hid (Below w.heap.size w wr)) (fun _ v4 _ _ _ _ => n - (intOf v4).toNat)
  case atStart => exact ⟨0, [[]], _, 1, Nat.zero_le _, (by first | rfl | trivial), (by first | rfl | trivial), (Nat.le_refl 1 : _ ≤ 3 ^ 0), HL0.out, (fun j hj => by
    match j, hj with
    | 0, _ => exact Nat.le_refl _), HB0.out⟩
  case round =>
    clear HL0 HB0
    obtain ⟨i, outs, a, c, hi, rfl, rfl, HLEN, HLL, HSH, HB⟩ := hrel
    have hi0 : (0 : Int) ≤ (i : Int) := by omega
    by_cases hlt : i < n
    · have hiI : (i : Int) < (n : Int) := by omega
      obtain ⟨M, hM⟩ : ∃ M, M = outs.length := ⟨_, rfl⟩
      have HM := hidIt hM
      have hp3 : 3 ^ i ≤ 243 := by
        have : 3 ^ i ≤ 3 ^ 5 := Nat.pow_le_pow_right (by decide) (by omega)
        exact this
      have hM81 : M ≤ 243 := by have := HLEN.out; omega
      rw [← hM] at HLL ⊢
      clear hM hp3
      obtain ⟨wi, hwi⟩ : ∃ wi, wi = wr := ⟨_, rfl⟩
      subst hwi
      go_wp2_with fail
      go_loopw [5, 6, 7] (fun v5 v6 _ wr => ∃ (k m : Nat) (nexts : List (List Int)) (na : Option Addr) (nc : Nat), k ≤ M ∧ v6 = .int .i64 k ∧ v5 = .slice na m nc ∧ Hid (m = 3 * k) ∧ Hid (nexts.length = m) ∧ Hid (OwnLL wr wi.heap.size (.slice na m nc) nexts) ∧ Hid (ShN (i + 1) nexts) ∧ Hid (Below wi.heap.size wi wr)) (fun _ v6 _ _ => M - (intOf v6).toNat)
      case atStart => exact ⟨0, 0, [], none, 0, Nat.zero_le _, (by first | rfl | trivial), (by first | rfl | trivial), (rfl : 0 = 3 * 0), (rfl : ([] : List (List Int)).length = 0), OwnLL.nil _ _, (fun j hj => absurd hj (Nat.not_lt_zero _)), Below.refl _ _⟩
      case round =>
        obtain ⟨k, m0, nexts, na, nc, hk, rfl, rfl, HM0, HNL, HOL, HNS, HBi⟩ := hrel
        have hk0 : (0 : Int) ≤ (k : Int) := by omega
        by_cases hkM : k < M
        · have hkI : (k : Int) < (M : Int) := by omega
          go_wp2_with fail
          go_loopw [5, 7] (fun v5 v7 wr => ∃ (x m : Nat) (nexts : List (List Int)) (na : Option Addr) (nc : Nat), 1 ≤ x ∧ x ≤ 4 ∧ v7 = .int .i64 x ∧ v5 = .slice na m nc ∧ Hid (m = 3 * k + (x - 1)) ∧ Hid (nexts.length = m) ∧ Hid (OwnLL wr wi.heap.size (.slice na m nc) nexts) ∧ Hid (ShN (i + 1) nexts) ∧ Hid (Below wi.heap.size wi wr)) (fun _ v7 _ => 4 - (intOf v7).toNat)
          case atStart => exact ⟨1, m0, nexts, na, nc, Nat.le_refl _, by decide, (by first | rfl | trivial), (by first | rfl | trivial), HM0.out, HNL.out, HOL.out, HNS.out, HBi.out⟩
          case round =>
            clear HNL HOL HNS HBi
            obtain ⟨x, m, nexts, na, nc, hx1, hx4, rfl, rfl, HMX, HNL, HOL, HNS, HBi⟩ := hrel
            have hx0 : (0 : Int) ≤ (x : Int) := by omega
            by_cases hx3 : x ≤ 3
            · have hxI : (x : Int) ≤ 3 := by omega
              have hm5 : m ≤ 1000 := by have := HMX.out; omega
              have hkl : k < outs.length := by have := HM.out; omega
              have HLr := HLL.out.below HBi.out
              obtain ⟨ao, co, heo, hcells⟩ := HLr.form
              injection heo with heo1 heo2 heo3
              subst heo1 heo3
              obtain ⟨bo, oo, u, rfl, lo, cu, iu⟩ := hcells k hkl
              have HUL : Hid (outs[k].length ≤ i) := HSH.out k hkl
              generalize outs[k] = zs at *
              obtain ⟨ua, uc, rfl, -⟩ := iu.form
              have hgr := bgrow wr (.cells #[] 3)
              have iu1 := hidIt (iu.below hgr)
              have cu1 := (Below.cell (p := ⟨bo, oo + k, none⟩) hgr lo).trans cu
              have lo1 := Nat.lt_of_lt_of_le lo hgr.size
              obtain ⟨U, hU⟩ : ∃ U, U = zs.length := ⟨_, rfl⟩
              have HU := hidIt hU
              rw [← hU] at iu1 cu1
              have hU5 : U ≤ 6 := by have := HUL.out; omega
              clear HLr heo2 hcells cu iu hkl lo hU
              go_wp2_with (at_builtin; refine Hid.out ?_)
              refine hidIt ?_
              refine wpList_append_ints rfl (.tmp 25) (.tmp 29) rfl wr.heap.size wr.heap.size (Nat.le_refl _) (heap_alloc_new _ _) rfl ua U uc zs rfl iu1.out (by omega) ?_
              intro g2 c2 w2 ho2 hg2
              have hb2 : Below wr.heap.size wr w2 := below_app5 hgr hg2 (fun g e => by injection e with e; omega) hgr.size
              have HO7 := hidIt (ho2.news HU.out.symm (.cells #[.int .i64 (x : Int)] 3))
              have hb3 : Below wr.heap.size wr (w2.alloc (.cells #[.int .i64 (x : Int)] 3)) := hb2.trans (Below.mono (bgrow w2 _) hb2.size)
              have hsz3 : wr.heap.size ≤ (w2.alloc (.cells #[.int .i64 (x : Int)] 3)).heap.size := hb3.size
              have HB3 := hidIt hb3
              clear hgr ho2 hg2 hb2 hb3 iu1 cu1 lo1
              go_wp2_with (at_builtin; refine Hid.out ?_)
              refine hidIt ?_
              refine wpList_append_kb rfl (.tmp 30) (.tmp 32) elemI rfl wr.heap.size (.slice (some ⟨g2, 0, none⟩) U c2) U _ rfl HO7.out _ 1 rfl #[.int .i64 (x : Int)] 3 (heap_alloc_new _ _) rfl (one_of (by rfl)) (by omega) hsz3 ?_
              intro g4 c4 w4 hown4 hg4 hbl4
              have hb4 := below_app5 HB3.out hg4 (fun g e => (owns_blk HO7.out g e).1) hsz3
              have ho4 : OwnI w4 wr.heap.size (.slice (some ⟨g4, 0, none⟩) (U + 1) c4) (zs ++ [(x : Int)]) := OwnI.done HU.out.symm hown4
              have hgr5 := bgrow w4 (.cells #[.slice (some ⟨g4, 0, none⟩) (U + 1) c4] 22)
              have HO5 := hidIt ((show OwnI w4 wi.heap.size _ _ from ⟨ho4.1, by
                rcases ho4.2 with h0 | ⟨g, cap, cur, hv, hB2, h2⟩
                · exact .inl h0
                · exact .inr ⟨g, cap, cur, hv, Nat.le_trans HBi.out.size hB2, h2⟩⟩).go hgr5)
              have hb5 : Below wr.heap.size wr (w4.alloc (.cells #[.slice (some ⟨g4, 0, none⟩) (U + 1) c4] 22)) := hb4.trans (Below.mono hgr5 hb4.size)
              have HL5 := hidIt (HOL.out.go hb5)
              have HB5 := hidIt (HBi.out.trans (Below.mono hb5 HBi.out.size))
              have hsz5 : wi.heap.size ≤ (w4.alloc (.cells #[.slice (some ⟨g4, 0, none⟩) (U + 1) c4] 22)).heap.size := HB5.out.size
              obtain ⟨vals, hv1, hv2, hv3⟩ := HL5.out
              have HV1 : Hid (World.ownsRow (w4.alloc (.cells #[.slice (some ⟨g4, 0, none⟩) (U + 1) c4] 22)) wi.heap.size 22 1 (.slice na m nc) m vals) := by
                rw [HNL.out] at hv1
                exact hv1
              have HV2 := hidIt hv2
              have HV3 := hidIt hv3
              clear hown4 hg4 hbl4 hb4 ho4 hgr5 hb5 HO7 HB3 hsz3 hv1 hv2 hv3 HBi HOL
              go_wp2_with (at_builtin; refine Hid.out ?_)
              refine hidIt ?_
              refine wpList_append_kb rfl (.tmp 24) (.tmp 34) elemLL rfl wi.heap.size (.slice na m nc) m _ rfl HV1.out _ 1 rfl #[.slice (some ⟨g4, 0, none⟩) (U + 1) c4] 22 (heap_alloc_new _ _) rfl (one_of (by rfl)) (by omega) hsz5 ?_
              intro g6 c6 w6 hown6 hg6 hbl6
              have HB6 := hidIt (below_app5 HB5.out hg6 (fun g e => (owns_blk HV1.out g e).1) hsz5)
              have HO6 : Hid (OwnLL w6 wi.heap.size (.slice (some ⟨g6, 0, none⟩) (m + 1) c6) (nexts ++ [zs ++ [(x : Int)]])) :=
                OwnLL.app HL5.out HO5.out vals (by rw [HNL.out]; exact HV1.out) HV2.out HV3.out (by rw [HNL.out]; exact hown6) hg6
              have HN6 : Hid ((nexts ++ [zs ++ [(x : Int)]]).length = m + 1) := by show _ = _; rw [List.length_append, HNL.out]; rfl
              have HS6 : Hid (ShN (i + 1) (nexts ++ [zs ++ [(x : Int)]])) := HNS.out.snoc (by rw [List.length_append]; show zs.length + 1 ≤ i + 1; have := HUL.out; omega)
              have hwx : IntKind.i64.wrap ((x : Int) + 1) = (x : Int) + 1 := IntWalk.i64_in _ (by omega)
              clear hown6 hg6 hbl6 HV1 HV2 HV3 HO5 HL5 HB5 hsz5
              go_wp2_with fail
              go_roundw
              case rel => exact ⟨x + 1, m + 1, _, some ⟨g6, 0, none⟩, c6, by omega, by omega, by go_num, (by first | rfl | trivial), (show m + 1 = 3 * k + (x + 1 - 1) by have := HMX.out; omega), HN6.out, HO6.out, HS6.out, HB6.out⟩
              case measure => simp [intOf]; omega
            · obtain rfl : x = 4 := by omega
              have hxI : ¬ ((4 : Nat) : Int) ≤ 3 := by decide
              go_wp2_with fail
              go_roundw
              case rel => exact ⟨k + 1, m, nexts, na, nc, by omega, by go_num, (by first | rfl | trivial), (show m = 3 * (k + 1) by have := HMX.out; omega), HNL.out, HOL.out, HNS.out, HBi.out⟩
              case measure => simp [intOf]; omega
        · obtain rfl : k = M := by omega
          have hkI : ¬ (k : Int) < (k : Int) := by omega
          have HLF : Hid (LL wr (.slice na nexts.length nc) nexts) := by
            have h := HOL.out.ll
            rw [← HNL.out] at h
            exact h
          have HLN : Hid (nexts.length ≤ 3 ^ (i + 1)) := by
            show _ ≤ _
            rw [HNL.out, HM0.out, Nat.pow_succ]
            have := HLEN.out
            have := HM.out
            omega
          have HBF := hidIt (HB.out.trans (Below.mono HBi.out HB.out.size))
          have hnl := HNL.out
          clear HNL HOL HM0
          subst hnl
          go_wp2_with fail
          go_roundw
          case rel => exact ⟨i + 1, nexts, na, nc, by omega, by go_num, (by first | rfl | trivial), HLN.out, HLF.out, HNS.out, HBF.out⟩
          case measure => simp [intOf]; omega
    · obtain rfl : i = n := by omega
      have hiI : ¬ (i : Int) < (i : Int) := by omega
      go_wp2_with fail
      go_ret
      exact ⟨outs, a, c, rfl, HLL.out, HSH.out, Nat.le_trans HLEN.out (Nat.le_trans (Nat.pow_le_pow_right (by decide) hn) (by decide : 3 ^ 6 ≤ 729)), HB.out⟩
end Go.Proofs.Ytghnojmaciljoaa
