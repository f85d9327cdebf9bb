/- FromSet: what it lays, and the program's own. FromSet: the reference's. Is a list a labelling: the program's Valid (with slices.ContainsFunc) and the reference's. -/
import Derived.Test.YtihmdnbeonefcaaDoorZ4B
import Derived.Test.YtihmdnbeonefcaaDoorG0I

namespace Go.Proofs.YtihmdnbeonefcaaDoor
set_option linter.unusedVariables false
set_option linter.unusedSimpArgs false
open Go Go.RowKit Go.Sort

/-- The label of a node that a set gives. -/
def labOf (ps : List (Int × Int)) (set : List Int) (i : Nat) : Int :=
  if decide ((i : Int) ∈ set) = true then 1 else if (ps.any fun p => p.2 == (i : Int) && decide (p.1 ∈ set)) = true then 2 else 3
def fsR (N : Nat) (f : Nat → Int) : List Int := (List.range N).map f
def fsF (N : Nat) (ps : List (Int × Int)) (set : List Int) : List Int := fsR N (labOf ps set)
theorem fsR_len (N : Nat) (f : Nat → Int) : (fsR N f).length = N := by simp [fsR]
theorem fsR_get {N : Nat} {f : Nat → Int} {i : Nat} (h : i < (fsR N f).length) : (fsR N f)[i] = f i := by simp [fsR]
theorem fsR_congr {N : Nat} {f g : Nat → Int} (h : ∀ i, i < N → f i = g i) : fsR N f = fsR N g := by
  unfold fsR
  exact List.map_congr_left fun i hi => h i (List.mem_range.1 hi)
theorem fsR_set (N : Nat) (f : Nat → Int) (i : Nat) (v : Int) : (fsR N f).set i v = fsR N (fun j => if j = i then v else f j) := by
  apply List.ext_getElem
  · rw [List.length_set, fsR_len, fsR_len]
  · intro j h1 h2
    rw [List.getElem_set, fsR_get, fsR_get]
    by_cases e : i = j
    · rw [if_pos e, if_pos e.symm]
    · rw [if_neg e, if_neg (Ne.symm e)]
theorem fsF_len (N : Nat) (ps : List (Int × Int)) (set : List Int) : (fsF N ps set).length = N := fsR_len _ _
theorem fsF_get {N : Nat} {ps : List (Int × Int)} {set : List Int} {i : Nat} (h : i < (fsF N ps set).length) : (fsF N ps set)[i] = labOf ps set i := fsR_get h
theorem labOf_one {ps : List (Int × Int)} {set : List Int} {i : Nat} : labOf ps set i = 1 ↔ (i : Int) ∈ set := by
  unfold labOf
  by_cases h : (i : Int) ∈ set
  · simp [h]
  · rw [if_neg (by simpa using h)]
    split <;> simp [h]
theorem labOf_lab (ps : List (Int × Int)) (set : List Int) (i : Nat) : labOf ps set i = 1 ∨ labOf ps set i = 2 ∨ labOf ps set i = 3 := by
  unfold labOf
  split
  · exact .inl rfl
  · split
    · exact .inr (.inl rfl)
    · exact .inr (.inr rfl)
theorem fs_none (N : Nat) : List.replicate N 3 = fsF N [] [] := by
  apply List.ext_getElem
  · rw [List.length_replicate, fsF_len]
  · intro i h1 h2
    rw [List.getElem_replicate, fsF_get]
    simp [labOf]
theorem fs_in {N k : Nat} {set : List Int} (h : k < set.length) {i : Nat} (he : set[k] = (i : Int)) : fsF N [] (set.take (k + 1)) = (fsF N [] (set.take k)).set i 1 := by
  unfold fsF
  rw [fsR_set]
  apply fsR_congr
  intro j hj
  unfold labOf
  rw [List.take_succ_eq_append_getElem h, he]
  by_cases e : j = i
  · subst e; simp
  · rw [if_neg e]
    have : ((j : Int) ∈ List.take k set ++ [(i : Int)]) ↔ (j : Int) ∈ List.take k set := by
      rw [List.mem_append, List.mem_singleton]
      exact ⟨fun h => h.elim id (fun h => absurd h (by omega)), .inl⟩
    rw [decide_eq_decide.2 this]
    rfl
theorem fs_out {N k : Nat} {set : List Int} (h : k < set.length) (he : set[k] < 0 ∨ (N : Int) ≤ set[k]) : fsF N [] (set.take (k + 1)) = fsF N [] (set.take k) := by
  apply fsR_congr
  intro j hj
  unfold labOf
  rw [List.take_succ_eq_append_getElem h]
  have : ((j : Int) ∈ List.take k set ++ [set[k]]) ↔ (j : Int) ∈ List.take k set := by
    rw [List.mem_append, List.mem_singleton]
    exact ⟨fun h => h.elim id (fun h => absurd h (by omega)), .inl⟩
  rw [decide_eq_decide.2 this]
  rfl
theorem any_step {ps : List (Int × Int)} {k : Nat} (h : k < ps.length) (f : Int × Int → Bool) : (ps.take (k + 1)).any f = ((ps.take k).any f || f ps[k]) := by
  rw [List.take_succ_eq_append_getElem h, List.any_append]
  simp
theorem fs_hit {N k : Nat} {ps : List (Int × Int)} {set : List Int} (h : k < ps.length) {g s : Nat} (he : ps[k] = ((g : Int), (s : Int))) (hg : (g : Int) ∈ set) (hs : (s : Int) ∉ set) : fsF N (ps.take (k + 1)) set = (fsF N (ps.take k) set).set s 2 := by
  unfold fsF
  rw [fsR_set]
  apply fsR_congr
  intro j hj
  unfold labOf
  rw [any_step h, he]
  by_cases e : j = s
  · subst e
    simp [hg, hs]
  · rw [if_neg e]
    have : (((s : Int) == (j : Int)) && decide ((g : Int) ∈ set)) = false := by
      rw [beq_eq_false_iff_ne.2 (by omega)]; rfl
    simp only [this, Bool.or_false]
theorem fs_miss {N k : Nat} {ps : List (Int × Int)} {set : List Int} (h : k < ps.length) {g s : Nat} (he : ps[k] = ((g : Int), (s : Int))) (hn : ¬ ((g : Int) ∈ set ∧ (s : Int) ∉ set)) : fsF N (ps.take (k + 1)) set = fsF N (ps.take k) set := by
  apply fsR_congr
  intro j hj
  unfold labOf
  rw [any_step h, he]
  by_cases e : j = s
  · subst e
    by_cases hs : (j : Int) ∈ set
    · simp [hs]
    · have hg : (g : Int) ∉ set := fun hg => hn ⟨hg, hs⟩
      rw [decide_eq_false hg, Bool.and_false, Bool.or_false]
  · have : (((s : Int) == (j : Int)) && decide ((g : Int) ∈ set)) = false := by
      rw [beq_eq_false_iff_ne.2 (by omega)]; rfl
    simp only [this, Bool.or_false]

set_option maxRecDepth 100000 in
set_option maxHeartbeats 2000000 in
theorem lFromSet_any (N : Nat) (v v2 : Value) (ps : List (Int × Int)) (set : List Int) (w : World) (h : PairsAt w v ps) (hok : GOk (N : Int) ps) (hl : ps.length ≤ 1000) (hs : IL w v2 set) (hsl : set.length ≤ 1000) :
    Calls Tryd.prog 42 #[.agg #[.int .i64 (N : Int), v], v2] w fun e w' => ∃ b : Nat, e = .returned (.slice (some ⟨b, 0, none⟩) N N) ∧ w.heap.size ≤ b ∧ IR w' b (fsF N ps set) ∧ Below w.heap.size w w' := by
  have hB := bgrow w (.cells #[.int .i64 (N : Int), v] 27)
  have H1 := hidIt (h.below hB)
  obtain ⟨a, c, rfl, hpc⟩ := h.pc
  obtain ⟨a2, c2, rfl, hic⟩ := hs.ic
  have HPC := hidIt hpc
  have HIC := hidIt hic
  have HX := hidIt (heap_alloc_new w (.cells #[.int .i64 (N : Int), .slice a ps.length c] 27))
  have HB := hidIt hB
  have HOK := hidIt hok
  have HVE := hidIt (valE_of hok)
  have hN : N ≤ 40 := by have := hok.n40; omega
  clear h hpc hic hs hB hok
  go_enter Tryd.func42, Tryd.ntmps42
  go_upto_region 1 with (fail)
  generalize (w.alloc (.cells #[.int .i64 (N : Int), .slice a ps.length c] 27)) = w1 at *
  obtain ⟨x0, x1⟩ := And.intro (cell_two0 HX.out) (cell_two1 HX.out)
  have lx := lt_of_block HX.out
  go_wp2_with fail
  refine (gValidate_any (N : Int) _ ps _ H1.out (by omega)).mono ?_
  rw [HVE.out]
  rintro e w2 ⟨rfl, hb2⟩
  have HX2 := hidIt (blk_kept2 HX.out hb2)
  have HB2 := hidIt (HB.out.trans (Below.mono hb2 HB.out.size))
  clear hb2 HB HX H1 x0 x1 lx
  obtain ⟨x0, x1⟩ := And.intro (cell_two0 HX2.out) (cell_two1 HX2.out)
  have lx := lt_of_block HX2.out
  have hb3 := bgrow w2 (.cells #[.int .i64 3] 3)
  have HX3 := hidIt (blk_kept2 HX2.out hb3)
  have HB3 := hidIt (HB2.out.trans (Below.mono hb3 HB2.out.size))
  have HC3 := hidIt (int_cell (ss := [3]) (heap_alloc_new w2 (.cells #[.int .i64 3] 3)) 0 (by decide))
  have HL3 := hidIt (lt_of_block (heap_alloc_new w2 (.cells #[.int .i64 3] 3)))
  clear hb3
  go_wp2_with fail
  generalize (w2.alloc (.cells #[.int .i64 3] 3)) = w3 at *
  refine (slRepeatI_any w2.heap.size 0 1 3 N (by omega) w3 HC3.out HL3.out).mono ?_
  rintro e w4 ⟨R, rfl, hR, hr4, hb4⟩
  have HR4 : Hid (IR w4 R (fsF N [] (set.take 0))) := by
    show IR _ _ _
    rw [List.take_zero, ← fs_none]
    exact hr4
  have HX4 := hidIt (blk_kept2 HX3.out hb4)
  have HB4 := hidIt (HB3.out.trans (Below.mono hb4 HB3.out.size))
  have hwR : w.heap.size ≤ R := Nat.le_trans HB3.out.size hR
  have hPR : w.heap.size ≠ R := by have := lt_of_block HX3.out; omega
  clear hr4 hb4 HX2 HB2 x0 x1 lx HX3 HB3 HC3 HL3 hR
  obtain ⟨P, hP⟩ : ∃ P, P = w.heap.size := ⟨_, rfl⟩
  have HP := hidIt hP
  rw [← hP] at HX4 hPR ⊢
  clear hP
  obtain ⟨M, hM⟩ : ∃ M, M = ps.length := ⟨_, rfl⟩
  have HM := hidIt hM
  rw [← hM] at hl HX4 ⊢
  obtain ⟨L, hL⟩ : ∃ L, L = set.length := ⟨_, rfl⟩
  have HL := hidIt hL
  rw [← hL] at hsl ⊢
  clear hM hL
  obtain ⟨x0, x1⟩ := And.intro (cell_two0 HX4.out) (cell_two1 HX4.out)
  have lx := lt_of_block HX4.out
  go_wp2_with fail
  go_loopw [7, 19] (fun _ i wr => ∃ k : Nat, k ≤ L ∧ i = .int .i64 k ∧ Hid (IR wr R (fsF N [] (set.take k))) ∧ Hid (wr.heap[P]? = some (.cells #[.int .i64 (N : Int), .slice a M c] 27 (0, 0))) ∧ Hid (Below w.heap.size w wr)) (fun _ i _ => L - (intOf i).toNat)
  case atStart => exact ⟨0, Nat.zero_le _, (by first | rfl | trivial), HR4.out, HX4.out, HB4.out⟩
  case round =>
    clear HR4 HX4 HB4 x0 x1 lx
    obtain ⟨k, hk, rfl, HR, HX, HB⟩ := hrel
    have hkI0 : (0 : Int) ≤ (k : Int) := by omega
    obtain ⟨x0, x1⟩ := And.intro (cell_two0 HX.out) (cell_two1 HX.out)
    have lx := lt_of_block HX.out
    by_cases hlt : k < L
    · have hkI : (k : Int) < (L : Int) := by omega
      have h1x : k < set.length := by have := HL.out; omega
      obtain ⟨b1, o1, rfl, l1, hc1⟩ := (HIC.out.go HB.out).at_ h1x
      have p0 := hc1 k h1x
      clear hc1
      by_cases hin : 0 ≤ set[k] ∧ set[k] < (N : Int)
      · obtain ⟨i, hi⟩ : ∃ i : Nat, set[k] = (i : Int) := ⟨set[k].toNat, by omega⟩
        have HST := hidIt (fs_in (N := N) h1x hi)
        rw [hi] at p0 hin
        obtain ⟨hi0, hiN⟩ := hin
        have hiN2 : i < N := by omega
        have HR5 := hidIt (HR.out.set i 1)
        have HX5 := hidIt ((Below.heap_setCell wr ⟨R, i, none⟩ (.int .i64 1) P (by show P ≠ R; exact hPR)).trans HX.out)
        have HB5 : Hid (Below w.heap.size w (wr.setCell ⟨R, i, none⟩ (.int .i64 1))) := below_set5 HB.out hwR
        obtain ⟨z3, hcP⟩ := HR.out.ex (i := i) (by rw [fsF_len]; exact hiN2)
        have hfP := HR.out.free i
        have hlP := HR.out.lt
        clear hi h1x
        go_wp2_with fail
        go_roundw
        case rel => exact ⟨k + 1, by omega, by go_num, (by rw [HST.out]; exact HR5.out), HX5.out, HB5.out⟩
        case measure => simp [intOf]; omega
      · have HST := hidIt (fs_out (N := N) h1x (by omega))
        generalize set[k] = z at *
        clear h1x
        by_cases hz0 : 0 ≤ z
        · have hz1 : ¬ z < (N : Int) := by omega
          clear hin
          go_wp2_with fail
          go_roundw
          case rel => exact ⟨k + 1, by omega, by go_num, (by rw [HST.out]; exact HR.out), HX.out, HB.out⟩
          case measure => simp [intOf]; omega
        · clear hin
          go_wp2_with fail
          go_roundw
          case rel => exact ⟨k + 1, by omega, by go_num, (by rw [HST.out]; exact HR.out), HX.out, HB.out⟩
          case measure => simp [intOf]; omega
    · obtain rfl : k = L := by omega
      have hkI : ¬ (k : Int) < (k : Int) := by omega
      have HR5 : Hid (IR wr R (fsF N (ps.take 0) set)) := by
        have h := HR.out
        rw [List.take_of_length_le (by have := HL.out; omega)] at h
        exact h
      have HX5 := HX
      have HB5 := HB
      clear HR HX HB
      go_wp2_with fail
      clear x0 x1 lx
      go_loopw [9, 38] (fun _ i wr => ∃ k : Nat, k ≤ M ∧ i = .int .i64 k ∧ Hid (IR wr R (fsF N (ps.take k) set)) ∧ Hid (wr.heap[P]? = some (.cells #[.int .i64 (N : Int), .slice a M c] 27 (0, 0))) ∧ Hid (Below w.heap.size w wr)) (fun _ i _ => M - (intOf i).toNat)
      case atStart => exact ⟨0, Nat.zero_le _, (by first | rfl | trivial), HR5.out, HX5.out, HB5.out⟩
      case round =>
        clear HR5 HX5 HB5
        obtain ⟨q, hq, rfl, HR, HX, HB⟩ := hrel
        have hqI0 : (0 : Int) ≤ (q : Int) := by omega
        by_cases hlt2 : q < M
        · have hqI : (q : Int) < (M : Int) := by omega
          have h1x : q < ps.length := by have := HM.out; omega
          obtain ⟨b1, o1, rfl, l1, hc1⟩ := (HPC.out.go HB.out).at_ h1x
          obtain ⟨p0, p1⟩ := hc1 q h1x
          have hix := HOK.out.ix ps[q] (List.getElem_mem _)
          obtain ⟨g, s, hgs⟩ : ∃ g s : Nat, ps[q] = ((g : Int), (s : Int)) := ⟨ps[q].1.toNat, ps[q].2.toNat, Prod.ext (by simp only; omega) (by simp only; omega)⟩
          rw [hgs] at p0 p1 hix
          simp only at p0 p1 hix
          have hgN : g < N := by omega
          have hsN : s < N := by omega
          have hg0 : (0 : Int) ≤ (g : Int) := by omega
          have hs0 : (0 : Int) ≤ (s : Int) := by omega
          have hgI : (g : Int) < (N : Int) := by omega
          have hsI : (s : Int) < (N : Int) := by omega
          have HHIT := hidIt (fun a b => fs_hit (N := N) (set := set) h1x hgs a b)
          have HMIS := hidIt (fun a => fs_miss (N := N) (set := set) h1x hgs a)
          have hgr := bgrow wr (.cells #[.int .i64 (g : Int), .int .i64 (s : Int)] 49)
          have HQ := hidIt (heap_alloc_new wr (.cells #[.int .i64 (g : Int), .int .i64 (s : Int)] 49))
          have HR6 := hidIt (HR.out.go hgr)
          have HX6 := hidIt (blk_kept2 HX.out hgr)
          have HB6 := hidIt (HB.out.trans (Below.mono hgr HB.out.size))
          have hRQ : R ≠ wr.heap.size := by have := HR.out.lt; omega
          clear hc1 hix hgs hgr HR HX HB
          go_upto_region 13 with (fail)
          generalize (wr.alloc (.cells #[.int .i64 (g : Int), .int .i64 (s : Int)] 49)) = w6 at *
          generalize wr.heap.size = Q at *
          clear p0 p1 l1
          obtain ⟨y0, y1⟩ := And.intro (cell_two0 HQ.out) (cell_two1 HQ.out)
          have ly := lt_of_block HQ.out
          have hcg := HR6.out.cell (i := g) (by rw [fsF_len]; exact hgN)
          rw [fsF_get] at hcg
          have hcs := HR6.out.cell (i := s) (by rw [fsF_len]; exact hsN)
          rw [fsF_get] at hcs
          have hlP := HR6.out.lt
          by_cases e1 : labOf (ps.take q) set g = 1
          · by_cases e2 : labOf (ps.take q) set s = 1
            · have HE := hidIt (HMIS.out (fun h => h.2 (labOf_one.1 e2)))
              have hb2 : (labOf (ps.take q) set s != 1) = false := by rw [e2]; rfl
              rw [e1] at hcg
              generalize labOf (ps.take q) set s = y at *
              clear e1 e2 HHIT HMIS
              go_wp2_with fail
              go_roundw
              case rel => exact ⟨q + 1, by omega, by go_num, (by rw [HE.out]; exact HR6.out), HX6.out, HB6.out⟩
              case measure => simp [intOf]; omega
            · have HE := hidIt (HHIT.out (labOf_one.1 e1) (fun h => e2 (labOf_one.2 h)))
              have hb2 : (labOf (ps.take q) set s != 1) = true := bne_iff_ne.2 e2
              rw [e1] at hcg
              generalize labOf (ps.take q) set s = y at *
              have hfP := HR6.out.free s
              have HR7 := hidIt (HR6.out.set s 2)
              have HX7 := hidIt ((Below.heap_setCell w6 ⟨R, s, none⟩ (.int .i64 2) P (by show P ≠ R; exact hPR)).trans HX6.out)
              have HB7 : Hid (Below w.heap.size w (w6.setCell ⟨R, s, none⟩ (.int .i64 2))) := below_set5 HB6.out hwR
              clear e1 e2 HHIT HMIS
              go_wp2_with fail
              go_roundw
              case rel => exact ⟨q + 1, by omega, by go_num, (by rw [HE.out]; exact HR7.out), HX7.out, HB7.out⟩
              case measure => simp [intOf]; omega
          · have HE := hidIt (HMIS.out (fun h => e1 (labOf_one.2 h.1)))
            have hb1 : (labOf (ps.take q) set g == 1) = false := beq_eq_false_iff_ne.2 e1
            generalize labOf (ps.take q) set s = y at *
            generalize labOf (ps.take q) set g = x at *
            clear e1 HHIT HMIS
            go_wp2_with fail
            go_roundw
            case rel => exact ⟨q + 1, by omega, by go_num, (by rw [HE.out]; exact HR6.out), HX6.out, HB6.out⟩
            case measure => simp [intOf]; omega
        · obtain rfl : q = M := by omega
          have hqI : ¬ (q : Int) < (q : Int) := by omega
          have HE : Hid (IR wr R (fsF N ps set)) := by
            have h := HR.out
            rwa [List.take_of_length_le (by have := HM.out; omega)] at h
          go_wp2_with fail
          go_ret
          exact ⟨R, rfl, hwR, HE.out, HB.out⟩
end Go.Proofs.YtihmdnbeonefcaaDoor

namespace Go.Proofs.YtihmdnbeonefcaaDoor
set_option linter.unusedVariables false
set_option linter.unusedSimpArgs false
open Go Go.RowKit Go.Sort

theorem inL_any (ps : List (Int × Int)) (i : Int) (f : Int → Bool) : (inL ps i).any f = ps.any fun p => p.2 == i && f p.1 := by
  unfold inL
  rw [List.any_map, List.any_filter]
  rfl
/-- The label of a node, as the reference finds it. -/
theorem labOf_in (ps : List (Int × Int)) (set : List Int) (i : Nat) : labOf ps set i = if decide ((i : Int) ∈ set) = true then 1 else if ((inL ps i).any fun k => decide (k ∈ set)) = true then 2 else 3 := by
  rw [inL_any]
  rfl
theorem fsF_take {N : Nat} {ps : List (Int × Int)} {set : List Int} {k : Nat} : fsF (k + 1) ps set = fsF k ps set ++ [labOf ps set k] := by
  unfold fsF fsR
  rw [List.range_succ, List.map_append]
  rfl
theorem any_stepI {zs : List Int} {k : Nat} (h : k < zs.length) (f : Int → Bool) : (zs.take (k + 1)).any f = ((zs.take k).any f || f zs[k]) := by
  rw [List.take_succ_eq_append_getElem h, List.any_append]
  simp

theorem owns_mono {w : World} {B C : Nat} {v : Value} {zs : List Int} (h : OwnI w C v zs) (hB : B ≤ C) : OwnI w B v zs := by
  refine ⟨h.1, ?_⟩
  rcases h.2 with h0 | ⟨g, cap, cur, hv, hB2, h2⟩
  · exact .inl h0
  · exact .inr ⟨g, cap, cur, hv, Nat.le_trans hB hB2, h2⟩
end Go.Proofs.YtihmdnbeonefcaaDoor

namespace Go.Proofs.YtihmdnbeonefcaaDoor
set_option linter.unusedVariables false
set_option linter.unusedSimpArgs false
open Go Go.RowKit Go.Sort

def noL (x : Int) : Bool := !(decide (x = 1) || decide (x = 2) || decide (x = 3))
def validB (N : Nat) (l : List Int) : Bool := decide (l.length = N) && !(l.any noL)
theorem validB_iff {N : Nat} {l : List Int} : validB N l = true ↔ l.length = N ∧ LabOk l := by
  unfold validB LabOk noL
  rw [Bool.and_eq_true, decide_eq_true_eq, Bool.not_eq_true', List.any_eq_false]
  constructor
  · rintro ⟨h1, h2⟩
    exact ⟨h1, fun x hx => by have := h2 x hx; simp at this; omega⟩
  · rintro ⟨h1, h2⟩
    exact ⟨h1, fun x hx => by rcases h2 x hx with rfl | rfl | rfl <;> simp⟩

set_option maxHeartbeats 400000 in
theorem lNoLabel_any (x : Int) (w : World) : Calls Tryd.prog 73 #[.int .i64 x] w fun e w' => e = .returned (.bool (noL x)) ∧ w' = w := by
  have HV : Hid (noL x = !(decide (x = 1) || decide (x = 2) || decide (x = 3))) := (rfl : _ = _)
  generalize noL x = V at *
  by_cases h1 : x = 1
  · have HE : Hid (V = false) := by show _ = _; rw [HV.out]; simp [h1]
    subst h1
    go_enter Tryd.func73, Tryd.ntmps73
    go_wp2_with fail
    go_ret
    exact ⟨ret_bool HE.out.symm, rfl⟩
  by_cases h2 : x = 2
  · have HE : Hid (V = false) := by show _ = _; rw [HV.out]; simp [h2]
    subst h2
    go_enter Tryd.func73, Tryd.ntmps73
    go_wp2_with fail
    go_ret
    exact ⟨ret_bool HE.out.symm, rfl⟩
  have b1 : (x != 1) = true := bne_iff_ne.2 h1
  have b2 : (x != 2) = true := bne_iff_ne.2 h2
  by_cases h3 : x = 3
  · have HE : Hid (V = false) := by show _ = _; rw [HV.out]; simp [h3]
    subst h3
    clear h1 h2 b1 b2
    go_enter Tryd.func73, Tryd.ntmps73
    go_wp2_with fail
    go_ret
    exact ⟨ret_bool HE.out.symm, rfl⟩
  · have HE : Hid (V = true) := by show _ = _; rw [HV.out]; simp [h1, h2, h3]
    have b3 : (x != 3) = true := bne_iff_ne.2 h3
    clear h1 h2 h3
    go_enter Tryd.func73, Tryd.ntmps73
    go_wp2_with fail
    go_ret
    exact ⟨ret_bool HE.out.symm, rfl⟩

set_option maxRecDepth 100000 in
set_option maxHeartbeats 1000000 in
theorem indexFuncI_any (v : Value) (xs : List Int) (w : World) (h : IL w v xs) (hn : xs.length ≤ 1000000) :
    Calls Tryd.prog 83 #[v, .func (.func 73) #[] #[]] w fun e w' => ∃ r : Int, e = .returned (.int .i64 r) ∧ decide (0 ≤ r) = xs.any noL ∧ w' = w := by
  obtain ⟨a1, c1, rfl, k1⟩ := h.form
  have K1 := hidIt k1
  clear k1 h
  obtain ⟨M, hM⟩ : ∃ M, M = xs.length := ⟨_, rfl⟩
  have HX := hidIt hM
  rw [← hM] at hn ⊢
  clear hM
  go_enter Tryd.func83, Tryd.ntmps83
  go_wp2_with fail
  go_loopw [5, 8] (fun _ i wr => ∃ k : Nat, k ≤ M ∧ i = .int .i64 k ∧ wr = w ∧ Hid ((xs.take k).any noL = false)) (fun _ i _ => M - (intOf i).toNat)
  case atStart => exact ⟨0, Nat.zero_le _, (by first | rfl | trivial), (by first | rfl | trivial), (rfl : _ = _)⟩
  case round =>
    obtain ⟨k, hk, rfl, rfl, HT⟩ := hrel
    have hkI0 : (0 : Int) ≤ (k : Int) := by omega
    by_cases hlt : k < M
    · have hkI : (k : Int) < (M : Int) := by omega
      have h1x : k < xs.length := by have := HX.out; omega
      obtain ⟨b1, o1, rfl, l1, p0⟩ := K1.out k h1x
      have HS := hidIt (any_stepI h1x noL)
      have HM := hidIt (List.getElem_mem h1x)
      generalize xs[k] = x at *
      clear h1x
      cases hx : noL x
      · have HE : Hid ((xs.take (k + 1)).any noL = false) := by show _ = _; rw [HS.out, HT.out, hx]; rfl
        have HX1 := hidIt hx
        clear hx
        go_wp2_with fail
        refine (lNoLabel_any x _).mono ?_
        rw [HX1.out]
        rintro e w' ⟨rfl, rfl⟩
        go_wp2_with fail
        go_roundw
        case rel => exact ⟨k + 1, by omega, by go_num, (by first | rfl | trivial), HE.out⟩
        case measure => simp [intOf]; omega
      · have HE : Hid (xs.any noL = true) := List.any_eq_true.2 ⟨x, HM.out, hx⟩
        have HX1 := hidIt hx
        clear hx
        go_wp2_with fail
        refine (lNoLabel_any x _).mono ?_
        rw [HX1.out]
        rintro e w' ⟨rfl, rfl⟩
        go_wp2_with fail
        go_ret
        exact ⟨_, rfl, by rw [HE.out]; exact decide_eq_true hkI0, rfl⟩
    · have hkI : ¬ (k : Int) < (M : Int) := by omega
      have HE : Hid (xs.any noL = false) := by
        have := HT.out
        rwa [List.take_of_length_le (by have := HX.out; omega)] at this
      go_wp2_with fail
      go_ret
      exact ⟨_, rfl, by rw [HE.out]; decide, rfl⟩

set_option maxHeartbeats 400000 in
theorem containsFuncI_any (v : Value) (xs : List Int) (w : World) (h : IL w v xs) (hn : xs.length ≤ 1000000) :
    Calls Tryd.prog 72 #[v, .func (.func 73) #[] #[]] w fun e w' => e = .returned (.bool (xs.any noL)) ∧ w' = w := by
  have H := hidIt h
  obtain ⟨a1, c1, rfl, -⟩ := h.form
  clear h
  go_enter Tryd.func72, Tryd.ntmps72
  go_wp2_with fail
  refine (indexFuncI_any _ xs _ H.out hn).mono ?_
  rintro e w' ⟨r, rfl, hr, rfl⟩
  have HR := hidIt hr
  clear hr
  cases hx : xs.any noL
  · rw [hx] at HR
    have hr : ¬ 0 ≤ r := of_decide_eq_false HR.out
    have hr2 : r < 0 := by omega
    go_wp2_with fail
    go_ret
    exact ⟨ret_bool (by first | exact hx.symm | (simp [hx]; done) | (simp [hx]; omega)), rfl⟩
  · rw [hx] at HR
    have hr : 0 ≤ r := of_decide_eq_true HR.out
    go_wp2_with fail
    go_ret
    exact ⟨ret_bool (by first | exact hx.symm | (simp [hx]; done) | (simp [hx]; omega)), rfl⟩

set_option maxRecDepth 100000 in
set_option maxHeartbeats 1000000 in
theorem lValid_any (N : Nat) (v v2 : Value) (ps : List (Int × Int)) (l : List Int) (w : World) (h : PairsAt w v ps) (hok : GOk (N : Int) ps) (hl : ps.length ≤ 1000) (hs : IL w v2 l) (hsl : l.length ≤ 1000) :
    Calls Tryd.prog 63 #[.agg #[.int .i64 (N : Int), v], v2] w fun e w' => e = .returned (.bool (validB N l)) ∧ Below w.heap.size w w' := by
  have hB := bgrow w (.cells #[.int .i64 (N : Int), v] 27)
  have H1 := hidIt (h.below hB)
  have HS1 := hidIt (hs.below hB)
  obtain ⟨a, c, rfl, -⟩ := h.form
  obtain ⟨a2, c2, rfl, -⟩ := hs.form
  have HX := hidIt (heap_alloc_new w (.cells #[.int .i64 (N : Int), .slice a ps.length c] 27))
  have HB := hidIt hB
  have HVE := hidIt (valE_of hok)
  have HV : Hid (validB N l = (decide (l.length = N) && !(l.any noL))) := (rfl : _ = _)
  clear h hs hB hok
  go_enter Tryd.func63, Tryd.ntmps63
  go_upto_region 1 with (fail)
  generalize (w.alloc (.cells #[.int .i64 (N : Int), .slice a ps.length c] 27)) = w1 at *
  obtain ⟨x0, x1⟩ := And.intro (cell_two0 HX.out) (cell_two1 HX.out)
  have lx := lt_of_block HX.out
  go_wp2_with fail
  refine (gValidate_any (N : Int) _ ps _ H1.out (by omega)).mono ?_
  rw [HVE.out]
  rintro e w2 ⟨rfl, hb2⟩
  have HX2 := hidIt (blk_kept2 HX.out hb2)
  have HB2 := hidIt (HB.out.trans (Below.mono hb2 HB.out.size))
  have HS2 := hidIt (HS1.out.below hb2)
  clear hb2 HB HX H1 HS1 x0 x1 lx
  obtain ⟨x0, x1⟩ := And.intro (cell_two0 HX2.out) (cell_two1 HX2.out)
  have lx := lt_of_block HX2.out
  by_cases hlen : l.length = N
  · have hb : ((l.length : Int) == (N : Int)) = true := beq_iff_eq.2 (by omega)
    have HE : Hid (validB N l = !(l.any noL)) := by show _ = _; rw [HV.out, decide_eq_true hlen, Bool.true_and]
    clear hlen
    go_wp2_with fail
    refine (containsFuncI_any _ l _ HS2.out (by omega)).mono ?_
    rintro e w3 ⟨rfl, rfl⟩
    go_wp2_with fail
    go_ret
    exact ⟨ret_bool HE.out.symm, HB2.out⟩
  · have hb : ((l.length : Int) == (N : Int)) = false := beq_eq_false_iff_ne.2 (by omega)
    have HE : Hid (validB N l = false) := by show _ = _; rw [HV.out, decide_eq_false hlen, Bool.false_and]
    clear hlen
    go_wp2_with fail
    go_ret
    exact ⟨ret_bool HE.out.symm, HB2.out⟩

end Go.Proofs.YtihmdnbeonefcaaDoor
