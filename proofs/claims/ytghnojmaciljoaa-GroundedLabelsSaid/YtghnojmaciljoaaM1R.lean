/- The reference's Attackers and keep.Graph at up to 2000 attacks. -/
import Derived.Test.YtghnojmaciljoaaG1I
namespace Go.Proofs.Ytghnojmaciljoaa
set_option linter.unusedVariables false
set_option linter.unusedSimpArgs false
open Go Go.RowKit Go.Sort

theorem OwnI.low {w : World} {B B' : Nat} {v : Value} {zs : List Int} (h : OwnI w B v zs) (hB : B' ≤ B) : OwnI w B' v zs := by
  unfold OwnI World.ownsRow at h ⊢
  obtain ⟨hl, h⟩ := h
  refine ⟨hl, ?_⟩
  rcases h with h | ⟨g, cap, cur, hv, hb, hr⟩
  · exact .inl h
  · exact .inr ⟨g, cap, cur, hv, Nat.le_trans hB hb, hr⟩
set_option maxRecDepth 100000 in
set_option maxHeartbeats 2000000 in
theorem rgAttackers2_any (n : Int) (v : Value) (xs : List (Int × Int)) (i : Int) (w : World) (h : PairsAt w v xs) (hl : xs.length ≤ 2000) :
    Calls Try.prog 34 #[.agg #[.int .i64 n, v], .int .i64 i] w fun e w' => ∃ v', e = .returned v' ∧ OwnI w' w.heap.size v' (inL (vL n xs) i) ∧ Below w.heap.size w w' := by
  have hB := bgrow w (.cells #[.int .i64 n, v] 27)
  have h1 := h.below hB
  have HV := hidIt (h.valid n)
  obtain ⟨a, c, rfl, -⟩ := h.form
  have HX := hidIt (heap_alloc_new w (.cells #[.int .i64 n, .slice a xs.length c] 27))
  have HB := hidIt hB
  have H1 := hidIt h1
  have HL := hidIt hl
  clear h h1 hB hl
  go_enter Try.func34, Try.ntmps34
  go_upto_region 1 with (fail)
  generalize (w.alloc (.cells #[.int .i64 n, .slice a xs.length c] 27)) = w1 at *
  obtain ⟨x0, x1⟩ := And.intro (cell_two0 HX.out) (cell_two1 HX.out)
  have lx := lt_of_block HX.out
  go_wp2_with fail
  refine (rgvalid_any n _ xs _ H1.out (by have := HL.out; omega)).mono ?_
  rintro e w2 ⟨rfl, hb⟩
  have HX2 := hidIt (blk_kept2 HX.out hb)
  have HLN : Hid ((vL n xs).length ≤ 2000) := Nat.le_trans (vL_len n xs) HL.out
  have HB2 := hidIt (HB.out.trans (Below.mono hb HB.out.size))
  have HP := hidIt (HV.out.below HB2.out)
  clear hb x0 x1 lx HX H1 HL HB
  generalize hps : vL n xs = ps at *
  have HPS := hidIt hps
  clear hps
  generalize vN n xs = m at *
  generalize vV n xs _ = v' at *
  obtain ⟨a', c', rfl, hpc⟩ := HV.out.pc
  have HB3 := hidIt (below_set5 (i := 1) (u := .slice a' ps.length c') (below_set5 (i := 0) (u := .int .i64 m) HB2.out (Nat.le_refl _)) (Nat.le_refl _))
  have HX3 := hidIt (box_set2 (x := .int .i64 m) (y := .slice a' ps.length c') HX2.out)
  have HPC := hidIt (hpc.go HB3.out)
  obtain ⟨x0, x1⟩ := And.intro (cell_two0 HX2.out) (cell_two1 HX2.out)
  have lx := lt_of_block HX2.out
  have f0 := free_any HX2.out 0
  have f1 := free_any HX2.out 1
  clear hpc
  go_upto_region 3 with (fail)
  generalize ((w2.setCell ⟨w.heap.size, 0, none⟩ (.int .i64 m)).setCell ⟨w.heap.size, 1, none⟩ (.slice a' ps.length c')) = w3 at *
  generalize w.heap.size = P at HX3 HX2 ⊢
  clear x0 x1 lx f0 f1
  obtain ⟨M, hM⟩ : ∃ M, M = ps.length := ⟨_, rfl⟩
  have HM := hidIt hM
  rw [← hM] at HX3 HLN ⊢
  clear hM
  have hMn := HLN.out
  obtain ⟨x0, x1⟩ := And.intro (cell_two0 HX3.out) (cell_two1 HX3.out)
  have lx := lt_of_block HX3.out
  obtain ⟨B, hB⟩ : ∃ B, B = w3.heap.size := ⟨_, rfl⟩
  have HBq := hidIt hB
  clear hB
  go_wp2_with fail
  go_loopw [5, 6] (fun v5 vk wr => ∃ (k : Nat) (zs : List Int) (za : Option Addr) (zc : Nat), v5 = .slice za zs.length zc ∧ vk = .int .i64 k ∧ k ≤ M ∧ Hid (zs = inL (ps.take k) i) ∧ Hid (OwnI wr B (.slice za zs.length zc) zs) ∧ Hid (Below B w3 wr)) (fun _ vk _ => M - (intOf vk).toNat)
  case atStart => exact ⟨0, [], none, 0, rfl, (by first | rfl | trivial), Nat.zero_le _, (rfl : [] = inL (ps.take 0) i), OwnI.nil _ _, Below.refl _ _⟩
  case round =>
    obtain ⟨k, zs, za, zc, rfl, rfl, hk, HZ, HO, HBr⟩ := hrel
    have hkI0 : (0 : Int) ≤ (k : Int) := by omega
    have HBr3 : Hid (Below w3.heap.size w3 wr) := by show Below _ _ _; rw [← HBq.out]; exact HBr.out
    have HXr := hidIt (blk_kept2 HX3.out HBr3.out)
    have x0 := cell_two0 HXr.out
    have x1 := cell_two1 HXr.out
    have lx := lt_of_block HXr.out
    by_cases hlt : k < M
    · have hkI : (k : Int) < (M : Int) := by omega
      have HLT : Hid (k < ps.length) := by show k < _; rw [← HM.out]; exact hlt
      obtain ⟨b, off, rfl, lb, hcs⟩ := (HPC.out.go HBr3.out).at_ HLT.out
      obtain ⟨p0, p1⟩ := hcs k HLT.out
      obtain ⟨x, hx⟩ : ∃ x, x = ps[k]'HLT.out := ⟨_, rfl⟩
      rw [← hx] at p0 p1
      have HST : Hid (inL (ps.take (k + 1)) i = zs ++ if (ps[k]'HLT.out).2 == i then [(ps[k]'HLT.out).1] else []) := by show _ = _; rw [inL_step HLT.out, ← HZ.out]
      rw [← hx] at HST
      clear hx hcs
      obtain ⟨gx, sx⟩ := x
      simp only at p0 p1
      have hzl : zs.length ≤ 2000 := by
        have h1 := inL_len (ps.take k) i
        rw [← HZ.out] at h1
        rw [List.length_take] at h1
        have := HM.out
        omega
      have HBn := HBr
      have HOn := HO
      clear HBr HO
      obtain ⟨w4, hw4⟩ : ∃ w4, w4 = wr := ⟨_, rfl⟩
      subst hw4
      by_cases he : sx = i
      · have hb1 : (sx == i) = true := beq_iff_eq.2 he
        have HE : Hid (inL (ps.take (k + 1)) i = zs ++ [gx]) := by show _ = _; rw [HST.out]; simp only [hb1, if_true]
        clear he HST
        obtain ⟨L, hL⟩ : ∃ L, L = zs.length := ⟨_, rfl⟩
        have HLL := hidIt hL
        have HO7 : Hid (World.ownsRow (w4.alloc (.cells #[.int .i64 gx] 3)) B 3 1 (.slice za L zc) L (zs.map (Value.int .i64))) := by
          have h := HOn.out.go (bgrow w4 (.cells #[.int .i64 gx] 3))
          unfold OwnI at h
          rw [← hL] at h
          exact h
        have hBsz : B ≤ w4.heap.size := by have := HBn.out.size; have := HBq.out; omega
        have HB7 := hidIt (HBn.out.trans (Below.mono (bgrow w4 (.cells #[.int .i64 gx] 3)) hBsz))
        have hsz7 : B ≤ (w4.alloc (.cells #[.int .i64 gx] 3)).heap.size := Nat.le_trans hBsz (bgrow w4 _).size
        rw [← hL] at hzl ⊢
        clear hL HBn HOn hBsz
        go_wp2_with (at_builtin; refine Hid.out ?_)
        refine hidIt ?_
        refine wpList_append_kb rfl _ _ elemI rfl B (.slice za L zc) L _ rfl HO7.out _ 1 rfl #[.int .i64 gx] 3 (heap_alloc_new _ _) rfl (one_of (by rfl)) (by omega) hsz7 ?_
        intro g8 c8 w8 hown8 hg8 hbl8
        have HB8 := hidIt (below_app5 HB7.out hg8 (fun g e => (owns_blk HO7.out g e).1) hsz7)
        have HL8 : Hid ((zs ++ [gx]).length = L + 1) := by show _ = _; rw [List.length_append, HLL.out]; rfl
        have HO8 : Hid (OwnI w8 B (.slice (some ⟨g8, 0, none⟩) (L + 1) c8) (zs ++ [gx])) := by
          show World.ownsRow _ _ _ _ _ _ _
          rw [HL8.out, List.map_append]
          exact hown8
        clear hown8 hg8 hbl8 HO7 HB7 hsz7
        go_wp2_with fail
        go_roundw
        case rel => exact ⟨k + 1, zs ++ [gx], some ⟨g8, 0, none⟩, c8, (by rw [HL8.out]), by go_num, by omega, HE.out.symm, (by rw [HL8.out]; exact HO8.out), HB8.out⟩
        case measure => simp [intOf]; omega
      · have hb1 : (sx == i) = false := beq_eq_false_iff_ne.2 he
        have HE : Hid (inL (ps.take (k + 1)) i = zs) := by show _ = _; rw [HST.out]; simp [hb1]
        clear he HST
        go_wp2_with fail
        go_roundw
        case rel => exact ⟨k + 1, zs, za, zc, rfl, by go_num, by omega, HE.out.symm, HOn.out, HBn.out⟩
        case measure => simp [intOf]; omega
    · have hkI : ¬ (k : Int) < (M : Int) := by omega
      have HE : Hid (zs = inL ps i) := by
        have := HZ.out
        rwa [List.take_of_length_le (by rw [← HM.out]; omega)] at this
      have HIL := hidIt (OwnI.low HO.out (show w.heap.size ≤ B by rw [HBq.out]; exact HB3.out.size))
      have HBF := hidIt (HB3.out.trans (Below.mono HBr3.out HB3.out.size))
      go_wp2_with fail
      go_ret
      rw [HPS.out, ← HE.out]
      exact ⟨_, rfl, HIL.out, HBF.out⟩


/-- What a call that reads a graph hands back. -/
def GraphOut2 (w : World) (B b : Nat) (zs : List Int) (n : Nat) (e : Ending) (w' : World) : Prop :=
  ∃ (N : Nat) (ps : List (Int × Int)) (a : Option Addr) (c k : Nat), e = .returned (.agg #[.int .i64 (N : Int), .slice a ps.length c]) ∧ N ≤ n ∧ GOk (N : Int) ps ∧ ps.length ≤ 2000 ∧ OwnPairs w' w.heap.size (.slice a ps.length c) ps ∧ SrcAt w' B b zs k ∧ w.grownBy w' (some b)

set_option maxRecDepth 100000 in
set_option maxHeartbeats 8000000 in
theorem kGraph2_any (n : Nat) (hn : n ≤ 40) (B b : Nat) (zs : List Int) (k0 : Nat) (w : World) (hs : SrcAt w B b zs k0) :
    Calls Try.prog 9 #[.pointer (some ⟨b, 0, none⟩), .int .i64 (n : Int)] w (GraphOut2 w B b zs n) := by
  have hb := hs.lt
  have HS1 := hidIt (hs.alloc (.cells #[.int .i64 0, .slice none 0 0] 27))
  have HG1 := hidIt (World.grownBy_alloc w (.cells #[.int .i64 0, .slice none 0 0] 27) (some b))
  have HR1 := hidIt (heap_alloc_new w (.cells #[.int .i64 0, .slice none 0 0] 27))
  have hwn : IntKind.i64.wrap ((n : Int) + 1) = (n : Int) + 1 := IntWalk.i64_in _ (by omega)
  clear hs
  go_enter Try.func9, Try.ntmps9
  go_upto_region 1 with (fail)
  generalize (w.alloc (.cells #[.int .i64 0, .slice none 0 0] 27)) = w1 at *
  go_wp2_with fail
  refine (sn_nat ((n : Int) + 1) (by omega) (by omega) B b zs _ w1 HS1.out).mono ?_
  rintro e w2 ⟨N, k2, rfl, hN, hs2, hg2⟩
  have HNN : Hid (N ≤ n) := by show N ≤ n; omega
  have hN20 : N ≤ 40 := by omega
  have hr2 := (hg2.block w.heap.size (lt_of_block HR1.out) (fun e => by injection e with e; omega)).trans HR1.out
  have HGS : Hid (GS w B b w.heap.size w2.heap.size zs (N : Int) (w2.alloc (.cells #[.int .i64 (N : Int), .slice none 0 0] 27)) (.slice none 0 0) []) :=
    ⟨hb, Nat.le_refl _, lt_of_block hr2, blk_kept2 hr2 (bgrow w2 _), heap_alloc_new w2 _, OwnP.nil _ _, ⟨k2, hs2.alloc _⟩, only_alloc (only_trans HG1.out hg2) _⟩
  clear hs2 hg2 hr2 HS1 HG1 HR1 hN
  go_upto_region 2 with (fail)
  generalize (w2.alloc (.cells #[.int .i64 (N : Int), .slice none 0 0] 27)) = w3 at *
  generalize w2.heap.size = Q at *
  obtain ⟨k3, hs3⟩ := HGS.out.src
  go_wp2_with fail
  refine (sn_nat 6 (by decide) (by decide) B b zs k3 w3 hs3).mono ?_
  rintro e w4 ⟨d, k4, rfl, hd, hs4, hg4⟩
  have HG4 := hidIt (HGS.out.call hs4 hg4)
  clear hs3 hs4 hg4 HGS
  go_wp2_with fail
  go_loopw [7, 8, 9] (fun vf _ _ wr => ∃ (f : Nat) (ps : List (Int × Int)) (a : Option Addr) (c : Nat), vf = .int .i64 (f : Int) ∧ f ≤ N ∧ Hid (Gen N f 0 ps) ∧ Hid (GS w B b w.heap.size Q zs (N : Int) wr (.slice a ps.length c) ps)) (fun vf _ _ _ => N - (intOf vf).toNat)
  case atStart => exact ⟨0, [], none, 0, (by first | rfl | trivial), Nat.zero_le _, Gen.nil N, HG4.out⟩
  case round =>
    clear HG4
    obtain ⟨f, ps0, a0, c0, rfl, hf, HGen0, HGS0⟩ := hrel
    have hf0 : (0 : Int) ≤ (f : Int) := by omega
    obtain ⟨x0, x1⟩ := And.intro (cell_two0 HGS0.out.box) (cell_two1 HGS0.out.box)
    have lx := lt_of_block HGS0.out.box
    by_cases hfl : f < N
    · have hfI : (f : Int) < (N : Int) := by omega
      go_wp2_with fail
      clear x0 x1 lx
      go_loopw [8, 9] (fun vt _ wr => ∃ (t : Nat) (ps : List (Int × Int)) (a : Option Addr) (c : Nat), vt = .int .i64 (t : Int) ∧ t ≤ N ∧ Hid (Gen N f t ps) ∧ Hid (GS w B b w.heap.size Q zs (N : Int) wr (.slice a ps.length c) ps)) (fun vt _ _ => N - (intOf vt).toNat)
      case atStart => exact ⟨0, ps0, a0, c0, (by first | rfl | trivial), Nat.zero_le _, HGen0.out, HGS0.out⟩
      case round =>
        clear HGen0 HGS0
        obtain ⟨t, ps, a, c, rfl, ht, HGen, HG⟩ := hrel
        have ht0 : (0 : Int) ≤ (t : Int) := by omega
        obtain ⟨x0, x1⟩ := And.intro (cell_two0 HG.out.box) (cell_two1 HG.out.box)
        have lx := lt_of_block HG.out.box
        by_cases htl : t < N
        · have htI : (t : Int) < (N : Int) := by omega
          obtain ⟨k5, hs5⟩ := HG.out.src
          have HS5 := hidIt hs5
          clear hs5
          go_wp2_with fail
          refine (sn_nat 12 (by decide) (by decide) B b zs k5 _ HS5.out).mono ?_
          rintro e w6 ⟨z, k6, rfl, hz, hs6, hg6⟩
          have HG6 := hidIt (HG.out.call hs6 hg6)
          have HSK := hidIt HGen.out.skip
          have HAD := hidIt (HGen.out.add hfl htl)
          have hpl : ps.length ≤ 2000 := by
            have h1 := HGen.out.len
            have h2 : f * N ≤ 39 * 40 := Nat.mul_le_mul (by omega) hN20
            omega
          clear hs6 hg6 HG HS5 x0 x1 lx
          obtain ⟨x0, x1⟩ := And.intro (cell_two0 HG6.out.box) (cell_two1 HG6.out.box)
          have lx := lt_of_block HG6.out.box
          by_cases hzd : (z : Int) < 1 + (d : Int)
          rotate_left
          · have hzb : decide ((z : Int) < 1 + (d : Int)) = false := decide_eq_false hzd
            go_wp2_with fail
            go_roundw
            case rel => exact ⟨t + 1, ps, a, c, by go_num, by omega, HSK.out, HG6.out⟩
            case measure => simp [intOf]; omega
          by_cases hft : f = t ∧ z ≠ 0
          · obtain ⟨hft1, hft2⟩ := hft
            have hb1 : ((f : Int) != (t : Int)) = false := by rw [hft1]; exact bne_self_eq_false _
            have hb2 : ((z : Int) == 0) = false := beq_eq_false_iff_ne.2 (by omega)
            clear hft1 hft2
            go_wp2_with fail
            go_roundw
            case rel => exact ⟨t + 1, ps, a, c, by go_num, by omega, HSK.out, HG6.out⟩
            case measure => simp [intOf]; omega
          have HG7 := hidIt (HG6.out.go (bgrow w6 (.cells #[.int .i64 (f : Int), .int .i64 (t : Int)] 43)))
          have hsz7 := HG7.out.lt
          obtain ⟨L, hL⟩ : ∃ L, L = ps.length := ⟨_, rfl⟩
          have HLL := hidIt hL
          rw [← hL] at hpl x1 HG7
          have HO7 : Hid (World.ownsRow (w6.alloc (.cells #[.int .i64 (f : Int), .int .i64 (t : Int)] 43)) (Q + 1) 43 2 (.slice a L c) L (ps.flatMap encP)) := by
            have h := HG7.out.own
            unfold OwnP at h
            rw [← HLL.out] at h
            exact h
          clear hL
          have hcase : (((f : Int) != (t : Int)) = true ∨ ((f : Int) != (t : Int)) = false ∧ ((z : Int) == 0) = true) := by
            by_cases e : f = t
            · right
              have hz0 : z = 0 := Classical.byContradiction fun h => hft ⟨e, h⟩
              exact ⟨by rw [e]; exact bne_self_eq_false _, by rw [hz0]; rfl⟩
            · left; exact bne_iff_ne.2 (by omega)
          clear hft
          rcases hcase with hb1 | ⟨hb1, hb2⟩
          all_goals (
            go_wp2_with (at_builtin; refine Hid.out ?_)
            refine hidIt ?_
            refine wpList_append_kb rfl _ _ elemP rfl (Q + 1) (.slice a L c) L _ rfl HO7.out _ 1 rfl #[.int .i64 (f : Int), .int .i64 (t : Int)] 43 (heap_alloc_new _ _) rfl (one_of (by rfl)) (by omega) hsz7 ?_
            intro g8 c8 w8 hown8 hg8 hbl8
            have HL8 : Hid ((ps ++ [((f : Int), (t : Int))]).length = L + 1) := by show _ = _; rw [List.length_append, HLL.out]; rfl
            have HG8 : Hid (GS w B b w.heap.size Q zs (N : Int) (w8.setCell ⟨Q, 1, none⟩ (.slice (some ⟨g8, 0, none⟩) (L + 1) c8)) (.slice (some ⟨g8, 0, none⟩) (L + 1) c8) (ps ++ [((f : Int), (t : Int))])) :=
              GS.app (x := ((f : Int), (t : Int))) HG7.out (by rw [← HLL.out]; exact hown8) hg8
            have hOB : ∀ g, (Value.slice a L c).ownBlock = some g → Q + 1 ≤ g := fun g e => (owns_blk HO7.out g e).1
            have hQ8 := (hg8.block Q (lt_of_block HG7.out.box) (fun e => by have := hOB _ e.symm; omega)).trans HG7.out.box
            have k0 := cell_two0 hQ8
            have k1 := cell_two1 hQ8
            have lk := lt_of_block hQ8
            have f8 := free_any hQ8 1
            clear hown8 hg8 hbl8 hOB HO7 HG7 HG6 hsz7 hQ8 x0 x1 lx
            go_wp2_with fail
            go_roundw
            case rel => exact ⟨t + 1, ps ++ [((f : Int), (t : Int))], some ⟨g8, 0, none⟩, c8, by go_num, by omega, HAD.out, (by rw [HL8.out]; exact HG8.out)⟩
            case measure => simp [intOf]; omega)
        · obtain rfl : t = N := by omega
          have htI : ¬ (t : Int) < (t : Int) := by omega
          have HRW := hidIt HGen.out.row
          go_wp2_with fail
          go_roundw
          case rel => exact ⟨f + 1, ps, a, c, by go_num, by omega, HRW.out, HG.out⟩
          case measure => simp [intOf]; omega
    · obtain rfl : f = N := by omega
      have hfI : ¬ (f : Int) < (f : Int) := by omega
      have hpl : Hid (ps0.length ≤ 2000) := by
        have h1 := HGen0.out.len
        have h2 : f * f ≤ 40 * 40 := Nat.mul_le_mul hN20 hN20
        show _ ≤ _
        omega
      have HOKK := hidIt (HGen0.out.ok (by omega))
      have r0 := cell_two0 HGS0.out.res
      have r1 := cell_two1 HGS0.out.res
      have lr := lt_of_block HGS0.out.res
      have g0 := free_any HGS0.out.res 0
      have g1 := free_any HGS0.out.res 1
      have hpq := HGS0.out.pq
      have HOF : Hid (∀ A C : Value, OwnPairs ((wr.setCell ⟨w.heap.size, 0, none⟩ A).setCell ⟨w.heap.size, 1, none⟩ C) w.heap.size (.slice a0 ps0.length c0) ps0) := fun A C => by
        refine (HGS0.out.own.own.kept (row := some w.heap.size) (only_setCell (only_setCell (only_refl wr (some w.heap.size)) (.inl rfl) _) (.inl rfl) _) (fun g e b2 cap2 hv2 => ?_)).mono (by omega)
        injection e with e
        have h1 := (owns_blk HGS0.out.own b2 (by rw [hv2]; rfl)).1
        omega
      have HSF : Hid (∀ A C : Value, ∃ k, SrcAt ((wr.setCell ⟨w.heap.size, 0, none⟩ A).setCell ⟨w.heap.size, 1, none⟩ C) B b zs k) := fun A C => by
        obtain ⟨k, hs⟩ := HGS0.out.src
        have hsb := hs.base
        exact ⟨k, (hs.setCell _ _ (by show B ≤ w.heap.size; omega) (by show w.heap.size ≠ b; omega)).setCell _ _ (by show B ≤ w.heap.size; omega) (by show w.heap.size ≠ b; omega)⟩
      have HGF : Hid (∀ A C : Value, w.grownBy ((wr.setCell ⟨w.heap.size, 0, none⟩ A).setCell ⟨w.heap.size, 1, none⟩ C) (some b)) := fun A C => only_setCell (only_setCell HGS0.out.gr (.inr (Nat.le_refl _)) _) (.inr (Nat.le_refl _)) _
      go_wp2_with fail
      refine bodyPost_ret (v := .agg #[.int .i64 (f : Int), .slice a0 ps0.length c0]) (by simp [results, Try.results9, go_sem, r0, r1, lr]) rfl ?_
      obtain ⟨k9, hk9⟩ := HSF.out (.int .i64 (f : Int)) (.slice a0 ps0.length c0)
      exact ⟨f, ps0, a0, c0, k9, rfl, HNN.out, HOKK.out, hpl.out, HOF.out _ _, hk9, HGF.out _ _⟩

end Go.Proofs.Ytghnojmaciljoaa
