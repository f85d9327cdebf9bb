/- Attackers, Attacked: the program's and the reference's, for every graph. -/
import Derived.Test.YtfiaoibfejginaaDoorG0H
namespace Go.Proofs.YtfiaoibfejginaaDoor
set_option linter.unusedVariables false
set_option linter.unusedSimpArgs false
open Go Go.RowKit Go.Sort

/-- Who attacks i; whom i attacks. -/
def inL (ps : List (Int × Int)) (i : Int) : List Int := (ps.filter fun p => p.2 == i).map (·.1)
def outL (ps : List (Int × Int)) (i : Int) : List Int := (ps.filter fun p => p.1 == i).map (·.2)
theorem inL_step {ps : List (Int × Int)} {k : Nat} (h : k < ps.length) (i : Int) : inL (ps.take (k + 1)) i = inL (ps.take k) i ++ if ps[k].2 == i then [ps[k].1] else [] := by
  unfold inL
  rw [List.take_succ_eq_append_getElem h, List.filter_append, List.map_append]
  cases hb : ps[k].2 == i <;> simp [hb]
theorem outL_step {ps : List (Int × Int)} {k : Nat} (h : k < ps.length) (i : Int) : outL (ps.take (k + 1)) i = outL (ps.take k) i ++ if ps[k].1 == i then [ps[k].2] else [] := by
  unfold outL
  rw [List.take_succ_eq_append_getElem h, List.filter_append, List.map_append]
  cases hb : ps[k].1 == i <;> simp [hb]
theorem inL_len (ps : List (Int × Int)) (i : Int) : (inL ps i).length ≤ ps.length := by
  unfold inL
  rw [List.length_map]
  exact List.length_filter_le _ _
theorem outL_len (ps : List (Int × Int)) (i : Int) : (outL ps i).length ≤ ps.length := by
  unfold outL
  rw [List.length_map]
  exact List.length_filter_le _ _

set_option maxRecDepth 100000 in
set_option maxHeartbeats 2000000 in
theorem rgAttackers_any (n : Int) (v : Value) (xs : List (Int × Int)) (i : Int) (w : World) (h : PairsAt w v xs) (hl : xs.length ≤ 1000) :
    Calls Tryd.prog 70 #[.agg #[.int .i64 n, v], .int .i64 i] w fun e w' => ∃ v', e = .returned v' ∧ IL w' v' (inL (vL n xs) i) ∧ Below w.heap.size w w' := by
  have hB := bgrow w (.cells #[.int .i64 n, v] 24)
  have h1 := h.below hB
  have HV := hidIt (h.valid n)
  obtain ⟨a, c, rfl, -⟩ := h.form
  have HX := hidIt (heap_alloc_new w (.cells #[.int .i64 n, .slice a xs.length c] 24))
  have HB := hidIt hB
  have H1 := hidIt h1
  have HL := hidIt hl
  clear h h1 hB hl
  go_enter Tryd.func70, Tryd.ntmps70
  go_upto_region 1 with (fail)
  generalize (w.alloc (.cells #[.int .i64 n, .slice a xs.length c] 24)) = w1 at *
  obtain ⟨x0, x1⟩ := And.intro (cell_two0 HX.out) (cell_two1 HX.out)
  have lx := lt_of_block HX.out
  go_wp2_with fail
  refine (rgvalid_any n _ xs _ H1.out (by have := HL.out; omega)).mono ?_
  rintro e w2 ⟨rfl, hb⟩
  have HX2 := hidIt (blk_kept2 HX.out hb)
  have HLN : Hid ((vL n xs).length ≤ 1000) := Nat.le_trans (vL_len n xs) HL.out
  have HB2 := hidIt (HB.out.trans (Below.mono hb HB.out.size))
  have HP := hidIt (HV.out.below HB2.out)
  clear hb x0 x1 lx HX H1 HL HB
  generalize hps : vL n xs = ps at *
  have HPS := hidIt hps
  clear hps
  generalize vN n xs = m at *
  generalize vV n xs _ = v' at *
  obtain ⟨a', c', rfl, hpc⟩ := HV.out.pc
  have HB3 := hidIt (below_set5 (i := 1) (u := .slice a' ps.length c') (below_set5 (i := 0) (u := .int .i64 m) HB2.out (Nat.le_refl _)) (Nat.le_refl _))
  have HX3 := hidIt (box_set2 (x := .int .i64 m) (y := .slice a' ps.length c') HX2.out)
  have HPC := hidIt (hpc.go HB3.out)
  obtain ⟨x0, x1⟩ := And.intro (cell_two0 HX2.out) (cell_two1 HX2.out)
  have lx := lt_of_block HX2.out
  have f0 := free_any HX2.out 0
  have f1 := free_any HX2.out 1
  clear hpc
  go_upto_region 3 with (fail)
  generalize ((w2.setCell ⟨w.heap.size, 0, none⟩ (.int .i64 m)).setCell ⟨w.heap.size, 1, none⟩ (.slice a' ps.length c')) = w3 at *
  generalize w.heap.size = P at HX3 HX2 ⊢
  clear x0 x1 lx f0 f1
  obtain ⟨M, hM⟩ : ∃ M, M = ps.length := ⟨_, rfl⟩
  have HM := hidIt hM
  rw [← hM] at HX3 HLN ⊢
  clear hM
  have hMn := HLN.out
  obtain ⟨x0, x1⟩ := And.intro (cell_two0 HX3.out) (cell_two1 HX3.out)
  have lx := lt_of_block HX3.out
  obtain ⟨B, hB⟩ : ∃ B, B = w3.heap.size := ⟨_, rfl⟩
  have HBq := hidIt hB
  clear hB
  go_wp2_with fail
  go_loopw [5, 6] (fun v5 vk wr => ∃ (k : Nat) (zs : List Int) (za : Option Addr) (zc : Nat), v5 = .slice za zs.length zc ∧ vk = .int .i64 k ∧ k ≤ M ∧ Hid (zs = inL (ps.take k) i) ∧ Hid (OwnI wr B (.slice za zs.length zc) zs) ∧ Hid (Below B w3 wr)) (fun _ vk _ => M - (intOf vk).toNat)
  case atStart => exact ⟨0, [], none, 0, rfl, (by first | rfl | trivial), Nat.zero_le _, (rfl : [] = inL (ps.take 0) i), OwnI.nil _ _, Below.refl _ _⟩
  case round =>
    obtain ⟨k, zs, za, zc, rfl, rfl, hk, HZ, HO, HBr⟩ := hrel
    have hkI0 : (0 : Int) ≤ (k : Int) := by omega
    have HBr3 : Hid (Below w3.heap.size w3 wr) := by show Below _ _ _; rw [← HBq.out]; exact HBr.out
    have HXr := hidIt (blk_kept2 HX3.out HBr3.out)
    have x0 := cell_two0 HXr.out
    have x1 := cell_two1 HXr.out
    have lx := lt_of_block HXr.out
    by_cases hlt : k < M
    · have hkI : (k : Int) < (M : Int) := by omega
      have HLT : Hid (k < ps.length) := by show k < _; rw [← HM.out]; exact hlt
      obtain ⟨b, off, rfl, lb, hcs⟩ := (HPC.out.go HBr3.out).at_ HLT.out
      obtain ⟨p0, p1⟩ := hcs k HLT.out
      obtain ⟨x, hx⟩ : ∃ x, x = ps[k]'HLT.out := ⟨_, rfl⟩
      rw [← hx] at p0 p1
      have HST : Hid (inL (ps.take (k + 1)) i = zs ++ if (ps[k]'HLT.out).2 == i then [(ps[k]'HLT.out).1] else []) := by show _ = _; rw [inL_step HLT.out, ← HZ.out]
      rw [← hx] at HST
      clear hx hcs
      obtain ⟨gx, sx⟩ := x
      simp only at p0 p1
      have hzl : zs.length ≤ 1000 := by
        have h1 := inL_len (ps.take k) i
        rw [← HZ.out] at h1
        rw [List.length_take] at h1
        have := HM.out
        omega
      have HBn := HBr
      have HOn := HO
      clear HBr HO
      obtain ⟨w4, hw4⟩ : ∃ w4, w4 = wr := ⟨_, rfl⟩
      subst hw4
      by_cases he : sx = i
      · have hb1 : (sx == i) = true := beq_iff_eq.2 he
        have HE : Hid (inL (ps.take (k + 1)) i = zs ++ [gx]) := by show _ = _; rw [HST.out]; simp only [hb1, if_true]
        clear he HST
        obtain ⟨L, hL⟩ : ∃ L, L = zs.length := ⟨_, rfl⟩
        have HLL := hidIt hL
        have HO7 : Hid (World.ownsRow (w4.alloc (.cells #[.int .i64 gx] 3)) B 3 1 (.slice za L zc) L (zs.map (Value.int .i64))) := by
          have h := HOn.out.go (bgrow w4 (.cells #[.int .i64 gx] 3))
          unfold OwnI at h
          rw [← hL] at h
          exact h
        have hBsz : B ≤ w4.heap.size := by have := HBn.out.size; have := HBq.out; omega
        have HB7 := hidIt (HBn.out.trans (Below.mono (bgrow w4 (.cells #[.int .i64 gx] 3)) hBsz))
        have hsz7 : B ≤ (w4.alloc (.cells #[.int .i64 gx] 3)).heap.size := Nat.le_trans hBsz (bgrow w4 _).size
        rw [← hL] at hzl ⊢
        clear hL HBn HOn hBsz
        go_wp2_with (at_builtin; refine Hid.out ?_)
        refine hidIt ?_
        refine wpList_append_kb rfl _ _ elemI rfl B (.slice za L zc) L _ rfl HO7.out _ 1 rfl #[.int .i64 gx] 3 (heap_alloc_new _ _) rfl (one_of (by rfl)) (by omega) hsz7 ?_
        intro g8 c8 w8 hown8 hg8 hbl8
        have HB8 := hidIt (below_app5 HB7.out hg8 (fun g e => (owns_blk HO7.out g e).1) hsz7)
        have HL8 : Hid ((zs ++ [gx]).length = L + 1) := by show _ = _; rw [List.length_append, HLL.out]; rfl
        have HO8 : Hid (OwnI w8 B (.slice (some ⟨g8, 0, none⟩) (L + 1) c8) (zs ++ [gx])) := by
          show World.ownsRow _ _ _ _ _ _ _
          rw [HL8.out, List.map_append]
          exact hown8
        clear hown8 hg8 hbl8 HO7 HB7 hsz7
        go_wp2_with fail
        go_roundw
        case rel => exact ⟨k + 1, zs ++ [gx], some ⟨g8, 0, none⟩, c8, (by rw [HL8.out]), by go_num, by omega, HE.out.symm, (by rw [HL8.out]; exact HO8.out), HB8.out⟩
        case measure => simp [intOf]; omega
      · have hb1 : (sx == i) = false := beq_eq_false_iff_ne.2 he
        have HE : Hid (inL (ps.take (k + 1)) i = zs) := by show _ = _; rw [HST.out]; simp [hb1]
        clear he HST
        go_wp2_with fail
        go_roundw
        case rel => exact ⟨k + 1, zs, za, zc, rfl, by go_num, by omega, HE.out.symm, HOn.out, HBn.out⟩
        case measure => simp [intOf]; omega
    · have hkI : ¬ (k : Int) < (M : Int) := by omega
      have HE : Hid (zs = inL ps i) := by
        have := HZ.out
        rwa [List.take_of_length_le (by rw [← HM.out]; omega)] at this
      have HIL := hidIt HO.out.il
      have HBF := hidIt (HB3.out.trans (Below.mono HBr3.out HB3.out.size))
      go_wp2_with fail
      go_ret
      rw [HPS.out, ← HE.out]
      exact ⟨_, rfl, HIL.out, HBF.out⟩

end Go.Proofs.YtfiaoibfejginaaDoor
