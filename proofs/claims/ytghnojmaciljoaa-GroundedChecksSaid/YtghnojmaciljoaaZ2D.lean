/- FromSet: what it lays, and the program's own. FromSet: the reference's. Is a list a labelling: the program's Valid (with slices.ContainsFunc) and the reference's. How many attackers of each node have each label: the program's tallies; the label with which a node is legal. Which nodes are not legal: the program's Illegal and IsComplete. awake: the chapter's examples answer true. -/
import Derived.Test.YtghnojmaciljoaaZ2B
import Derived.Test.YtghnojmaciljoaaG0I
import Derived.BigRegion

namespace Go.Proofs.Ytghnojmaciljoaa
set_option linter.unusedVariables false
set_option linter.unusedSimpArgs false
open Go Go.RowKit Go.Sort

/-- The label of a node that a set gives. -/
def labOf (ps : List (Int × Int)) (set : List Int) (i : Nat) : Int :=
  if decide ((i : Int) ∈ set) = true then 1 else if (ps.any fun p => p.2 == (i : Int) && decide (p.1 ∈ set)) = true then 2 else 3
def fsR (N : Nat) (f : Nat → Int) : List Int := (List.range N).map f
def fsF (N : Nat) (ps : List (Int × Int)) (set : List Int) : List Int := fsR N (labOf ps set)
theorem fsR_len (N : Nat) (f : Nat → Int) : (fsR N f).length = N := by simp [fsR]
theorem fsR_get {N : Nat} {f : Nat → Int} {i : Nat} (h : i < (fsR N f).length) : (fsR N f)[i] = f i := by simp [fsR]
theorem fsR_congr {N : Nat} {f g : Nat → Int} (h : ∀ i, i < N → f i = g i) : fsR N f = fsR N g := by
  unfold fsR
  exact List.map_congr_left fun i hi => h i (List.mem_range.1 hi)
theorem fsR_set (N : Nat) (f : Nat → Int) (i : Nat) (v : Int) : (fsR N f).set i v = fsR N (fun j => if j = i then v else f j) := by
  apply List.ext_getElem
  · rw [List.length_set, fsR_len, fsR_len]
  · intro j h1 h2
    rw [List.getElem_set, fsR_get, fsR_get]
    by_cases e : i = j
    · rw [if_pos e, if_pos e.symm]
    · rw [if_neg e, if_neg (Ne.symm e)]
theorem fsF_len (N : Nat) (ps : List (Int × Int)) (set : List Int) : (fsF N ps set).length = N := fsR_len _ _
theorem fsF_get {N : Nat} {ps : List (Int × Int)} {set : List Int} {i : Nat} (h : i < (fsF N ps set).length) : (fsF N ps set)[i] = labOf ps set i := fsR_get h
theorem labOf_one {ps : List (Int × Int)} {set : List Int} {i : Nat} : labOf ps set i = 1 ↔ (i : Int) ∈ set := by
  unfold labOf
  by_cases h : (i : Int) ∈ set
  · simp [h]
  · rw [if_neg (by simpa using h)]
    split <;> simp [h]
theorem labOf_lab (ps : List (Int × Int)) (set : List Int) (i : Nat) : labOf ps set i = 1 ∨ labOf ps set i = 2 ∨ labOf ps set i = 3 := by
  unfold labOf
  split
  · exact .inl rfl
  · split
    · exact .inr (.inl rfl)
    · exact .inr (.inr rfl)
theorem fs_none (N : Nat) : List.replicate N 3 = fsF N [] [] := by
  apply List.ext_getElem
  · rw [List.length_replicate, fsF_len]
  · intro i h1 h2
    rw [List.getElem_replicate, fsF_get]
    simp [labOf]
theorem fs_in {N k : Nat} {set : List Int} (h : k < set.length) {i : Nat} (he : set[k] = (i : Int)) : fsF N [] (set.take (k + 1)) = (fsF N [] (set.take k)).set i 1 := by
  unfold fsF
  rw [fsR_set]
  apply fsR_congr
  intro j hj
  unfold labOf
  rw [List.take_succ_eq_append_getElem h, he]
  by_cases e : j = i
  · subst e; simp
  · rw [if_neg e]
    have : ((j : Int) ∈ List.take k set ++ [(i : Int)]) ↔ (j : Int) ∈ List.take k set := by
      rw [List.mem_append, List.mem_singleton]
      exact ⟨fun h => h.elim id (fun h => absurd h (by omega)), .inl⟩
    rw [decide_eq_decide.2 this]
    rfl
theorem fs_out {N k : Nat} {set : List Int} (h : k < set.length) (he : set[k] < 0 ∨ (N : Int) ≤ set[k]) : fsF N [] (set.take (k + 1)) = fsF N [] (set.take k) := by
  apply fsR_congr
  intro j hj
  unfold labOf
  rw [List.take_succ_eq_append_getElem h]
  have : ((j : Int) ∈ List.take k set ++ [set[k]]) ↔ (j : Int) ∈ List.take k set := by
    rw [List.mem_append, List.mem_singleton]
    exact ⟨fun h => h.elim id (fun h => absurd h (by omega)), .inl⟩
  rw [decide_eq_decide.2 this]
  rfl
theorem any_step {ps : List (Int × Int)} {k : Nat} (h : k < ps.length) (f : Int × Int → Bool) : (ps.take (k + 1)).any f = ((ps.take k).any f || f ps[k]) := by
  rw [List.take_succ_eq_append_getElem h, List.any_append]
  simp
theorem fs_hit {N k : Nat} {ps : List (Int × Int)} {set : List Int} (h : k < ps.length) {g s : Nat} (he : ps[k] = ((g : Int), (s : Int))) (hg : (g : Int) ∈ set) (hs : (s : Int) ∉ set) : fsF N (ps.take (k + 1)) set = (fsF N (ps.take k) set).set s 2 := by
  unfold fsF
  rw [fsR_set]
  apply fsR_congr
  intro j hj
  unfold labOf
  rw [any_step h, he]
  by_cases e : j = s
  · subst e
    simp [hg, hs]
  · rw [if_neg e]
    have : (((s : Int) == (j : Int)) && decide ((g : Int) ∈ set)) = false := by
      rw [beq_eq_false_iff_ne.2 (by omega)]; rfl
    simp only [this, Bool.or_false]
theorem fs_miss {N k : Nat} {ps : List (Int × Int)} {set : List Int} (h : k < ps.length) {g s : Nat} (he : ps[k] = ((g : Int), (s : Int))) (hn : ¬ ((g : Int) ∈ set ∧ (s : Int) ∉ set)) : fsF N (ps.take (k + 1)) set = fsF N (ps.take k) set := by
  apply fsR_congr
  intro j hj
  unfold labOf
  rw [any_step h, he]
  by_cases e : j = s
  · subst e
    by_cases hs : (j : Int) ∈ set
    · simp [hs]
    · have hg : (g : Int) ∉ set := fun hg => hn ⟨hg, hs⟩
      rw [decide_eq_false hg, Bool.and_false, Bool.or_false]
  · have : (((s : Int) == (j : Int)) && decide ((g : Int) ∈ set)) = false := by
      rw [beq_eq_false_iff_ne.2 (by omega)]; rfl
    simp only [this, Bool.or_false]

end Go.Proofs.Ytghnojmaciljoaa

namespace Go.Proofs.Ytghnojmaciljoaa
set_option linter.unusedVariables false
set_option linter.unusedSimpArgs false
open Go Go.RowKit Go.Sort

theorem inL_any (ps : List (Int × Int)) (i : Int) (f : Int → Bool) : (inL ps i).any f = ps.any fun p => p.2 == i && f p.1 := by
  unfold inL
  rw [List.any_map, List.any_filter]
  rfl
/-- The label of a node, as the reference finds it. -/
theorem labOf_in (ps : List (Int × Int)) (set : List Int) (i : Nat) : labOf ps set i = if decide ((i : Int) ∈ set) = true then 1 else if ((inL ps i).any fun k => decide (k ∈ set)) = true then 2 else 3 := by
  rw [inL_any]
  rfl
theorem fsF_take {N : Nat} {ps : List (Int × Int)} {set : List Int} {k : Nat} : fsF (k + 1) ps set = fsF k ps set ++ [labOf ps set k] := by
  unfold fsF fsR
  rw [List.range_succ, List.map_append]
  rfl
theorem any_stepI {zs : List Int} {k : Nat} (h : k < zs.length) (f : Int → Bool) : (zs.take (k + 1)).any f = ((zs.take k).any f || f zs[k]) := by
  rw [List.take_succ_eq_append_getElem h, List.any_append]
  simp

theorem owns_mono {w : World} {B C : Nat} {v : Value} {zs : List Int} (h : OwnI w C v zs) (hB : B ≤ C) : OwnI w B v zs := by
  refine ⟨h.1, ?_⟩
  rcases h.2 with h0 | ⟨g, cap, cur, hv, hB2, h2⟩
  · exact .inl h0
  · exact .inr ⟨g, cap, cur, hv, Nat.le_trans hB hB2, h2⟩
end Go.Proofs.Ytghnojmaciljoaa

namespace Go.Proofs.Ytghnojmaciljoaa
set_option linter.unusedVariables false
set_option linter.unusedSimpArgs false
open Go Go.RowKit Go.Sort

def noL (x : Int) : Bool := !(decide (x = 1) || decide (x = 2) || decide (x = 3))
def validB (N : Nat) (l : List Int) : Bool := decide (l.length = N) && !(l.any noL)
theorem validB_iff {N : Nat} {l : List Int} : validB N l = true ↔ l.length = N ∧ LabOk l := by
  unfold validB LabOk noL
  rw [Bool.and_eq_true, decide_eq_true_eq, Bool.not_eq_true', List.any_eq_false]
  constructor
  · rintro ⟨h1, h2⟩
    exact ⟨h1, fun x hx => by have := h2 x hx; simp at this; omega⟩
  · rintro ⟨h1, h2⟩
    exact ⟨h1, fun x hx => by rcases h2 x hx with rfl | rfl | rfl <;> simp⟩

set_option maxHeartbeats 400000 in
theorem lNoLabel_any (x : Int) (w : World) : Calls Try.prog 43 #[.int .i64 x] w fun e w' => e = .returned (.bool (noL x)) ∧ w' = w := by
  have HV : Hid (noL x = !(decide (x = 1) || decide (x = 2) || decide (x = 3))) := (rfl : _ = _)
  generalize noL x = V at *
  by_cases h1 : x = 1
  · have HE : Hid (V = false) := by show _ = _; rw [HV.out]; simp [h1]
    subst h1
    go_enter Try.func43, Try.ntmps43
    go_wp2_with fail
    go_ret
    exact ⟨ret_bool HE.out.symm, rfl⟩
  by_cases h2 : x = 2
  · have HE : Hid (V = false) := by show _ = _; rw [HV.out]; simp [h2]
    subst h2
    go_enter Try.func43, Try.ntmps43
    go_wp2_with fail
    go_ret
    exact ⟨ret_bool HE.out.symm, rfl⟩
  have b1 : (x != 1) = true := bne_iff_ne.2 h1
  have b2 : (x != 2) = true := bne_iff_ne.2 h2
  by_cases h3 : x = 3
  · have HE : Hid (V = false) := by show _ = _; rw [HV.out]; simp [h3]
    subst h3
    clear h1 h2 b1 b2
    go_enter Try.func43, Try.ntmps43
    go_wp2_with fail
    go_ret
    exact ⟨ret_bool HE.out.symm, rfl⟩
  · have HE : Hid (V = true) := by show _ = _; rw [HV.out]; simp [h1, h2, h3]
    have b3 : (x != 3) = true := bne_iff_ne.2 h3
    clear h1 h2 h3
    go_enter Try.func43, Try.ntmps43
    go_wp2_with fail
    go_ret
    exact ⟨ret_bool HE.out.symm, rfl⟩

set_option maxRecDepth 100000 in
set_option maxHeartbeats 1000000 in
theorem indexFuncI_any (v : Value) (xs : List Int) (w : World) (h : IL w v xs) (hn : xs.length ≤ 1000000) :
    Calls Try.prog 53 #[v, .func (.func 43) #[] #[]] w fun e w' => ∃ r : Int, e = .returned (.int .i64 r) ∧ decide (0 ≤ r) = xs.any noL ∧ w' = w := by
  obtain ⟨a1, c1, rfl, k1⟩ := h.form
  have K1 := hidIt k1
  clear k1 h
  obtain ⟨M, hM⟩ : ∃ M, M = xs.length := ⟨_, rfl⟩
  have HX := hidIt hM
  rw [← hM] at hn ⊢
  clear hM
  go_enter Try.func53, Try.ntmps53
  go_wp2_with fail
  go_loopw [5, 8] (fun _ i wr => ∃ k : Nat, k ≤ M ∧ i = .int .i64 k ∧ wr = w ∧ Hid ((xs.take k).any noL = false)) (fun _ i _ => M - (intOf i).toNat)
  case atStart => exact ⟨0, Nat.zero_le _, (by first | rfl | trivial), (by first | rfl | trivial), (rfl : _ = _)⟩
  case round =>
    obtain ⟨k, hk, rfl, rfl, HT⟩ := hrel
    have hkI0 : (0 : Int) ≤ (k : Int) := by omega
    by_cases hlt : k < M
    · have hkI : (k : Int) < (M : Int) := by omega
      have h1x : k < xs.length := by have := HX.out; omega
      obtain ⟨b1, o1, rfl, l1, p0⟩ := K1.out k h1x
      have HS := hidIt (any_stepI h1x noL)
      have HM := hidIt (List.getElem_mem h1x)
      generalize xs[k] = x at *
      clear h1x
      cases hx : noL x
      · have HE : Hid ((xs.take (k + 1)).any noL = false) := by show _ = _; rw [HS.out, HT.out, hx]; rfl
        have HX1 := hidIt hx
        clear hx
        go_wp2_with fail
        refine (lNoLabel_any x _).mono ?_
        rw [HX1.out]
        rintro e w' ⟨rfl, rfl⟩
        go_wp2_with fail
        go_roundw
        case rel => exact ⟨k + 1, by omega, by go_num, (by first | rfl | trivial), HE.out⟩
        case measure => simp [intOf]; omega
      · have HE : Hid (xs.any noL = true) := List.any_eq_true.2 ⟨x, HM.out, hx⟩
        have HX1 := hidIt hx
        clear hx
        go_wp2_with fail
        refine (lNoLabel_any x _).mono ?_
        rw [HX1.out]
        rintro e w' ⟨rfl, rfl⟩
        go_wp2_with fail
        go_ret
        exact ⟨_, rfl, by rw [HE.out]; exact decide_eq_true hkI0, rfl⟩
    · have hkI : ¬ (k : Int) < (M : Int) := by omega
      have HE : Hid (xs.any noL = false) := by
        have := HT.out
        rwa [List.take_of_length_le (by have := HX.out; omega)] at this
      go_wp2_with fail
      go_ret
      exact ⟨_, rfl, by rw [HE.out]; decide, rfl⟩

set_option maxHeartbeats 400000 in
theorem containsFuncI_any (v : Value) (xs : List Int) (w : World) (h : IL w v xs) (hn : xs.length ≤ 1000000) :
    Calls Try.prog 42 #[v, .func (.func 43) #[] #[]] w fun e w' => e = .returned (.bool (xs.any noL)) ∧ w' = w := by
  have H := hidIt h
  obtain ⟨a1, c1, rfl, -⟩ := h.form
  clear h
  go_enter Try.func42, Try.ntmps42
  go_wp2_with fail
  refine (indexFuncI_any _ xs _ H.out hn).mono ?_
  rintro e w' ⟨r, rfl, hr, rfl⟩
  have HR := hidIt hr
  clear hr
  cases hx : xs.any noL
  · rw [hx] at HR
    have hr : ¬ 0 ≤ r := of_decide_eq_false HR.out
    have hr2 : r < 0 := by omega
    go_wp2_with fail
    go_ret
    exact ⟨ret_bool (by first | exact hx.symm | (simp [hx]; done) | (simp [hx]; omega)), rfl⟩
  · rw [hx] at HR
    have hr : 0 ≤ r := of_decide_eq_true HR.out
    go_wp2_with fail
    go_ret
    exact ⟨ret_bool (by first | exact hx.symm | (simp [hx]; done) | (simp [hx]; omega)), rfl⟩

set_option maxRecDepth 100000 in
set_option maxHeartbeats 1000000 in
theorem lValid_any (N : Nat) (v v2 : Value) (ps : List (Int × Int)) (l : List Int) (w : World) (h : PairsAt w v ps) (hok : GOk (N : Int) ps) (hl : ps.length ≤ 1000) (hs : IL w v2 l) (hsl : l.length ≤ 1000) :
    Calls Try.prog 30 #[.agg #[.int .i64 (N : Int), v], v2] w fun e w' => e = .returned (.bool (validB N l)) ∧ Below w.heap.size w w' := by
  have hB := bgrow w (.cells #[.int .i64 (N : Int), v] 27)
  have H1 := hidIt (h.below hB)
  have HS1 := hidIt (hs.below hB)
  obtain ⟨a, c, rfl, -⟩ := h.form
  obtain ⟨a2, c2, rfl, -⟩ := hs.form
  have HX := hidIt (heap_alloc_new w (.cells #[.int .i64 (N : Int), .slice a ps.length c] 27))
  have HB := hidIt hB
  have HVE := hidIt (valE_of hok)
  have HV : Hid (validB N l = (decide (l.length = N) && !(l.any noL))) := (rfl : _ = _)
  clear h hs hB hok
  go_enter Try.func30, Try.ntmps30
  go_upto_region 1 with (fail)
  generalize (w.alloc (.cells #[.int .i64 (N : Int), .slice a ps.length c] 27)) = w1 at *
  obtain ⟨x0, x1⟩ := And.intro (cell_two0 HX.out) (cell_two1 HX.out)
  have lx := lt_of_block HX.out
  go_wp2_with fail
  refine (gValidate_any (N : Int) _ ps _ H1.out (by omega)).mono ?_
  rw [HVE.out]
  rintro e w2 ⟨rfl, hb2⟩
  have HX2 := hidIt (blk_kept2 HX.out hb2)
  have HB2 := hidIt (HB.out.trans (Below.mono hb2 HB.out.size))
  have HS2 := hidIt (HS1.out.below hb2)
  clear hb2 HB HX H1 HS1 x0 x1 lx
  obtain ⟨x0, x1⟩ := And.intro (cell_two0 HX2.out) (cell_two1 HX2.out)
  have lx := lt_of_block HX2.out
  by_cases hlen : l.length = N
  · have hb : ((l.length : Int) == (N : Int)) = true := beq_iff_eq.2 (by omega)
    have HE : Hid (validB N l = !(l.any noL)) := by show _ = _; rw [HV.out, decide_eq_true hlen, Bool.true_and]
    clear hlen
    go_wp2_with fail
    refine (containsFuncI_any _ l _ HS2.out (by omega)).mono ?_
    rintro e w3 ⟨rfl, rfl⟩
    go_wp2_with fail
    go_ret
    exact ⟨ret_bool HE.out.symm, HB2.out⟩
  · have hb : ((l.length : Int) == (N : Int)) = false := beq_eq_false_iff_ne.2 (by omega)
    have HE : Hid (validB N l = false) := by show _ = _; rw [HV.out, decide_eq_false hlen, Bool.false_and]
    clear hlen
    go_wp2_with fail
    go_ret
    exact ⟨ret_bool HE.out.symm, HB2.out⟩

set_option maxRecDepth 100000 in
set_option maxHeartbeats 1000000 in
theorem rlValid_any (N : Nat) (v v2 : Value) (ps : List (Int × Int)) (l : List Int) (w : World) (h : PairsAt w v ps) (hs : IL w v2 l) (hsl : l.length ≤ 1000) :
    Calls Try.prog 33 #[.agg #[.int .i64 (N : Int), v], v2] w fun e w' => e = .returned (.bool (validB N l)) ∧ Below w.heap.size w w' := by
  have hB := bgrow w (.cells #[.int .i64 (N : Int), v] 27)
  obtain ⟨a, c, rfl, -⟩ := h.form
  obtain ⟨a2, c2, rfl, k2⟩ := (hs.below hB).form
  have K2 := hidIt k2
  have HX := hidIt (heap_alloc_new w (.cells #[.int .i64 (N : Int), .slice a ps.length c] 27))
  have HB := hidIt hB
  have HV : Hid (validB N l = (decide (l.length = N) && !(l.any noL))) := (rfl : _ = _)
  clear h hs hB k2
  go_enter Try.func33, Try.ntmps33
  go_upto_region 1 with (fail)
  generalize (w.alloc (.cells #[.int .i64 (N : Int), .slice a ps.length c] 27)) = w1 at *
  generalize w.heap.size = P at HX ⊢
  obtain ⟨x0, x1⟩ := And.intro (cell_two0 HX.out) (cell_two1 HX.out)
  have lx := lt_of_block HX.out
  obtain ⟨M, hM⟩ : ∃ M, M = l.length := ⟨_, rfl⟩
  have HM := hidIt hM
  rw [← hM] at hsl HV ⊢
  clear hM
  go_wp2_with fail
  go_loopw [5] (fun i wr => ∃ k : Nat, k ≤ M ∧ i = .int .i64 k ∧ wr = w1 ∧ Hid ((l.take k).any noL = false)) (fun i _ => M - (intOf i).toNat)
  case atStart => exact ⟨0, Nat.zero_le _, (by first | rfl | trivial), (by first | rfl | trivial), (rfl : _ = _)⟩
  case round =>
    obtain ⟨k, hk, rfl, rfl, HT⟩ := hrel
    have hkI0 : (0 : Int) ≤ (k : Int) := by omega
    by_cases hlt : k < M
    · have hkI : (k : Int) < (M : Int) := by omega
      have h1x : k < l.length := by have := HM.out; omega
      obtain ⟨b1, o1, rfl, l1, p0⟩ := K2.out k h1x
      have HS := hidIt (any_stepI h1x noL)
      have HMM := hidIt (List.getElem_mem h1x)
      generalize l[k] = x at *
      clear h1x
      by_cases hx1 : x < 1
      · have HE : Hid (validB N l = false) := by
          show _ = _
          rw [HV.out, show l.any noL = true from List.any_eq_true.2 ⟨x, HMM.out, by unfold noL; simp; omega⟩]
          simp
        go_wp2_with fail
        go_ret
        exact ⟨ret_bool HE.out.symm, HB.out⟩
      by_cases hx3 : 3 < x
      · have HE : Hid (validB N l = false) := by
          show _ = _
          rw [HV.out, show l.any noL = true from List.any_eq_true.2 ⟨x, HMM.out, by unfold noL; simp; omega⟩]
          simp
        go_wp2_with fail
        go_ret
        exact ⟨ret_bool HE.out.symm, HB.out⟩
      have HE : Hid ((l.take (k + 1)).any noL = false) := by
        show _ = _
        rw [HS.out, HT.out, show noL x = false from by unfold noL; simp; omega]
        rfl
      go_wp2_with fail
      go_roundw
      case rel => exact ⟨k + 1, by omega, by go_num, (by first | rfl | trivial), HE.out⟩
      case measure => simp [intOf]; omega
    · have hkI : ¬ (k : Int) < (M : Int) := by omega
      have HN : Hid (l.any noL = false) := by
        have := HT.out
        rwa [List.take_of_length_le (by have := HM.out; omega)] at this
      rw [HN.out] at HV
      by_cases hlen : M = N
      · have hb : ((M : Int) == (N : Int)) = true := beq_iff_eq.2 (by omega)
        have HE : Hid (validB N l = true) := by show _ = _; rw [HV.out, decide_eq_true hlen]; rfl
        clear hlen
        go_wp2_with fail
        go_ret
        exact ⟨ret_bool HE.out.symm, HB.out⟩
      · have hb : ((M : Int) == (N : Int)) = false := beq_eq_false_iff_ne.2 (by omega)
        have HE : Hid (validB N l = false) := by show _ = _; rw [HV.out, decide_eq_false hlen]; rfl
        clear hlen
        go_wp2_with fail
        go_ret
        exact ⟨ret_bool HE.out.symm, HB.out⟩
end Go.Proofs.Ytghnojmaciljoaa

namespace Go.Proofs.Ytghnojmaciljoaa
set_option linter.unusedVariables false
set_option linter.unusedSimpArgs false
open Go Go.RowKit Go.Sort

/-- How many attackers of a node have a label. -/
def cntLb (ps : List (Int × Int)) (l : List Int) (i x : Nat) : Nat := (ps.filter fun p => p.2 == (i : Int) && l.getD p.1.toNat 0 == (x : Int)).length
theorem cntLb_len (ps : List (Int × Int)) (l : List Int) (i x : Nat) : cntLb ps l i x ≤ ps.length := List.length_filter_le _ _
theorem cntLb_step {ps : List (Int × Int)} {l : List Int} {k : Nat} (h : k < ps.length) {g s : Nat} (he : ps[k] = ((g : Int), (s : Int))) {y : Nat} (hy : l.getD g 0 = (y : Int)) (i x : Nat) :
    cntLb (ps.take (k + 1)) l i x = cntLb (ps.take k) l i x + if i = s ∧ x = y then 1 else 0 := by
  unfold cntLb
  rw [List.take_succ_eq_append_getElem h, List.filter_append, List.length_append, he]
  congr 1
  simp only [List.filter_cons, List.filter_nil, Int.toNat_natCast, hy]
  by_cases e1 : i = s
  · by_cases e2 : x = y
    · subst e1 e2; simp
    · have : ((y : Int) == (x : Int)) = false := beq_eq_false_iff_ne.2 (by omega)
      simp [e2, this]
  · have : ((s : Int) == (i : Int)) = false := beq_eq_false_iff_ne.2 (by omega)
    simp [e1, this]
/-- The row of the tallies. -/
def talR (N : Nat) (ps : List (Int × Int)) (l : List Int) : List Int := fsR (N * 4) fun j => ((cntLb ps l (j / 4) (j % 4) : Nat) : Int)
theorem talR_len (N : Nat) (ps : List (Int × Int)) (l : List Int) : (talR N ps l).length = N * 4 := fsR_len _ _
theorem talR_get {N : Nat} {ps : List (Int × Int)} {l : List Int} {i x : Nat} (hx : x < 4) (h : i * 4 + x < (talR N ps l).length) : (talR N ps l)[i * 4 + x] = ((cntLb ps l i x : Nat) : Int) := by
  have h2 := fsR_get (f := fun j => ((cntLb ps l (j / 4) (j % 4) : Nat) : Int)) h
  have e1 : (i * 4 + x) / 4 = i := by omega
  have e2 : (i * 4 + x) % 4 = x := by omega
  simp only [e1, e2] at h2
  exact h2
theorem talR_none (N : Nat) (l : List Int) : List.replicate (N * 4) 0 = talR N [] l := by
  apply List.ext_getElem
  · rw [List.length_replicate, talR_len]
  · intro i h1 h2
    have h3 := fsR_get (f := fun j => ((cntLb [] l (j / 4) (j % 4) : Nat) : Int)) h2
    rw [List.getElem_replicate]
    exact h3.symm
theorem talR_step {N : Nat} {ps : List (Int × Int)} {l : List Int} {k : Nat} (h : k < ps.length) {g s : Nat} (he : ps[k] = ((g : Int), (s : Int))) {y : Nat} (hy : l.getD g 0 = (y : Int)) (hy4 : y < 4) :
    talR N (ps.take (k + 1)) l = (talR N (ps.take k) l).set (s * 4 + y) (((cntLb (ps.take k) l s y : Nat) : Int) + 1) := by
  unfold talR
  rw [fsR_set]
  apply fsR_congr
  intro j hj
  rw [cntLb_step h he hy]
  by_cases e : j = s * 4 + y
  · subst e
    have e1 : (s * 4 + y) / 4 = s := by omega
    have e2 : (s * 4 + y) % 4 = y := by omega
    rw [if_pos rfl, e1, e2, if_pos ⟨rfl, rfl⟩]
    omega
  · rw [if_neg e, if_neg (by omega)]
    omega

/-- A block that holds the tallies. -/
def TR (w : World) (b : Nat) (zs : List Int) : Prop := w.heap[b]? = some (.cells (intRow zs) 69 (0, 0))
theorem TR.cell {w : World} {b : Nat} {zs : List Int} (h : TR w b zs) {i : Nat} (hi : i < zs.length) : w.cell? ⟨b, i, none⟩ = some (.int .i64 zs[i]) := int_cell h i hi
theorem TR.set {w : World} {b : Nat} {zs : List Int} (h : TR w b zs) (i : Nat) (z : Int) : TR (w.setCell ⟨b, i, none⟩ (.int .i64 z)) b (zs.set i z) := by
  unfold TR
  rw [set_cells h, intRow_set]
theorem TR.go {w w' : World} {b : Nat} {zs : List Int} (h : TR w b zs) (hb : Below w.heap.size w w') : TR w' b zs := blk_kept2 h hb
theorem TR.lt {w : World} {b : Nat} {zs : List Int} (h : TR w b zs) : b < w.heap.size := lt_of_block h
theorem infoT : (Try.prog.info? 69).map (fun i => (i.zero, i.size, i.bytes)) = some (some (.agg #[.int .i64 0, .int .i64 0, .int .i64 0, .int .i64 0]), 4, 32) := by kernel_rfl
theorem made_tal (m : Nat) : madeCells #[.int .i64 0, .int .i64 0, .int .i64 0, .int .i64 0] m = intRow (List.replicate m 0) := by
  apply Array.ext_getElem?
  intro i
  by_cases h : i < m
  · have h2 : (intRow (List.replicate m 0))[i]? = some (.int .i64 0) := by simp [intRow, h]
    rw [h2]
    unfold madeCells
    have h4 : i % 4 = 0 ∨ i % 4 = 1 ∨ i % 4 = 2 ∨ i % 4 = 3 := by omega
    simp [h]
    rcases h4 with e | e | e | e <;> rw [e] <;> rfl
  · have h1 : (intRow (List.replicate m 0))[i]? = none := Array.getElem?_eq_none (by rw [intRow_size, List.length_replicate]; omega)
    rw [h1]
    unfold madeCells
    simp
    omega
theorem make_tal (n : Nat) (hn : n ≤ 1000) (w : World) : (Instr.makeSlice 66 (.int .i64 (n : Int)) (.int .i64 (n : Int))).run Try.prog w = .ok (.slice (some ⟨w.heap.size, 0, none⟩) n n) (w.alloc (.cells (intRow (List.replicate (n * 4) 0)) 69)) := by
  obtain ⟨i0, hi, hz0, hz1, hz2⟩ := info_parts infoT
  have hr := run_make (P := Try.prog) w 66 69 i0 _ Try.underlying66 hi hz0 .i64 .i64 (n : Int) (n : Int) (by omega) (by omega) (by rw [hz2]; omega) (by omega)
  rw [hz1] at hr
  simp only [Int.toNat_natCast] at hr
  rw [← made_tal]
  exact hr

theorem LabOk.nat {l : List Int} (h : LabOk l) {g : Nat} (hg : g < l.length) : ∃ y : Nat, l[g] = (y : Int) ∧ l.getD g 0 = (y : Int) ∧ y < 4 ∧ 1 ≤ y := by
  have h1 := h l[g] (List.getElem_mem hg)
  refine ⟨l[g].toNat, by omega, ?_, by omega, by omega⟩
  rw [List.getD_eq_getElem?_getD, List.getElem?_eq_getElem hg]
  show l[g] = _
  omega

set_option maxRecDepth 100000 in
set_option maxHeartbeats 2000000 in
theorem lTallies_any (N : Nat) (v v2 : Value) (ps : List (Int × Int)) (l : List Int) (w : World) (h : PairsAt w v ps) (hok : GOk (N : Int) ps) (hl : ps.length ≤ 1000) (hs : IL w v2 l) (hll : l.length = N) (hlab : LabOk l) :
    Calls Try.prog 45 #[.agg #[.int .i64 (N : Int), v], v2] w fun e w' => ∃ b : Nat, e = .returned (.slice (some ⟨b, 0, none⟩) N N) ∧ w.heap.size ≤ b ∧ TR w' b (talR N ps l) ∧ Below w.heap.size w w' := by
  have hB := bgrow w (.cells #[.int .i64 (N : Int), v] 27)
  obtain ⟨a, c, rfl, hpc⟩ := h.pc
  obtain ⟨a2, c2, rfl, hic⟩ := hs.ic
  have HPC := hidIt hpc
  have HIC := hidIt hic
  have HX := hidIt (heap_alloc_new w (.cells #[.int .i64 (N : Int), .slice a ps.length c] 27))
  have HB := hidIt hB
  have HOK := hidIt hok
  have HLAB := hidIt hlab
  have HLL := hidIt hll
  have hN : N ≤ 40 := by have := hok.n40; omega
  have hmk := make_tal N (by omega)
  clear h hpc hB hok hs hic hlab
  rw [hll]
  clear hll
  go_enter Try.func45, Try.ntmps45
  go_upto_region 1 with (fail)
  generalize hw1 : (w.alloc (.cells #[.int .i64 (N : Int), .slice a ps.length c] 27)) = w1 at *
  have hsz1 : w1.heap.size = w.heap.size + 1 := by rw [← hw1]; simp
  clear hw1
  obtain ⟨x0, x1⟩ := And.intro (cell_two0 HX.out) (cell_two1 HX.out)
  have lx := lt_of_block HX.out
  have hb2 := bgrow w1 (.cells (intRow (List.replicate (N * 4) 0)) 69)
  have HX2 := hidIt (blk_kept2 HX.out hb2)
  have HS2 : Hid (TR (w1.alloc (.cells (intRow (List.replicate (N * 4) 0)) 69)) w1.heap.size (talR N (ps.take 0) l)) := by
    show TR _ _ _
    rw [List.take_zero, ← talR_none]
    exact heap_alloc_new w1 _
  have HB2 := hidIt (HB.out.trans (Below.mono hb2 HB.out.size))
  clear hb2
  go_upto_region 2 with (fail)
  clear hmk x0 x1 lx
  generalize (w1.alloc (.cells (intRow (List.replicate (N * 4) 0)) 69)) = w2 at *
  rw [hsz1] at HS2
  clear hsz1 HX HB
  obtain ⟨P, hP⟩ : ∃ P, P = w.heap.size := ⟨_, rfl⟩
  have HP := hidIt hP
  rw [← hP] at HX2 HS2 ⊢
  clear hP
  obtain ⟨x0, x1⟩ := And.intro (cell_two0 HX2.out) (cell_two1 HX2.out)
  have lx := lt_of_block HX2.out
  obtain ⟨M, hM⟩ : ∃ M, M = ps.length := ⟨_, rfl⟩
  have HM := hidIt hM
  rw [← hM] at hl HX2 x1 ⊢
  clear hM
  go_wp2_with fail
  go_loopw [7, 14] (fun _ i wr => ∃ k : Nat, k ≤ M ∧ i = .int .i64 k ∧ Hid (TR wr (P + 1) (talR N (ps.take k) l)) ∧ Hid (wr.heap[P]? = some (.cells #[.int .i64 (N : Int), .slice a M c] 27 (0, 0))) ∧ Hid (Below w.heap.size w wr)) (fun _ i _ => M - (intOf i).toNat)
  case atStart => exact ⟨0, Nat.zero_le _, (by first | rfl | trivial), HS2.out, HX2.out, HB2.out⟩
  case round =>
    clear HS2 HX2 HB2 x0 x1 lx
    obtain ⟨k, hk, rfl, HS, HX, HB⟩ := hrel
    have hkI0 : (0 : Int) ≤ (k : Int) := by omega
    by_cases hlt : k < M
    · have hkI : (k : Int) < (M : Int) := by omega
      have h1x : k < ps.length := by have := HM.out; omega
      obtain ⟨b1, o1, rfl, l1, hc1⟩ := (HPC.out.go HB.out).at_ h1x
      obtain ⟨p0, p1⟩ := hc1 k h1x
      have hix := HOK.out.ix ps[k] (List.getElem_mem _)
      obtain ⟨g, s, hgs⟩ : ∃ g s : Nat, ps[k] = ((g : Int), (s : Int)) := ⟨ps[k].1.toNat, ps[k].2.toNat, Prod.ext (by simp only; omega) (by simp only; omega)⟩
      rw [hgs] at p0 p1 hix
      simp only at p0 p1 hix
      have hgN : g < N := by omega
      have hsN : s < N := by omega
      have hg0 : (0 : Int) ≤ (g : Int) := by omega
      have hs0 : (0 : Int) ≤ (s : Int) := by omega
      have hgI : (g : Int) < (N : Int) := by omega
      have hsI : (s : Int) < (N : Int) := by omega
      have hgl : g < l.length := by have := HLL.out; omega
      obtain ⟨y, hy1, hy2, hy4, hy0⟩ := HLAB.out.nat hgl
      have hcn := cntLb_len (ps.take k) l s y
      rw [List.length_take] at hcn
      have hyI0 : (0 : Int) ≤ (y : Int) := by omega
      have hyI : (y : Int) < 4 := by omega
      have HSTEP := hidIt (talR_step (N := N) h1x hgs hy2 hy4)
      have hgr := bgrow wr (.cells #[.int .i64 (g : Int), .int .i64 (s : Int)] 43)
      have HQ := hidIt (heap_alloc_new wr (.cells #[.int .i64 (g : Int), .int .i64 (s : Int)] 43))
      have HS3 := hidIt (HS.out.go hgr)
      have HX3 := hidIt (blk_kept2 HX.out hgr)
      have HB3 := hidIt (HB.out.trans (Below.mono hgr HB.out.size))
      clear hc1 hix hgs hgr HX HB HS
      go_upto_region 5 with (fail)
      generalize (wr.alloc (.cells #[.int .i64 (g : Int), .int .i64 (s : Int)] 43)) = w4 at *
      generalize wr.heap.size = Q at *
      clear p0 p1 l1
      obtain ⟨y0, y1⟩ := And.intro (cell_two0 HQ.out) (cell_two1 HQ.out)
      have ly := lt_of_block HQ.out
      obtain ⟨b2, o2, rfl, l2, hc2⟩ := (HIC.out.go HB3.out).at_ hgl
      have q0 := hc2 g hgl
      rw [hy1] at q0
      have hlen : s * 4 + y < (talR N (ps.take k) l).length := by rw [talR_len]; omega
      have r0 := HS3.out.cell hlen
      rw [talR_get hy4] at r0
      have f0 := free_any HS3.out (s * 4 + y)
      have lc := HS3.out.lt
      have HSN := hidIt (HS3.out.set (s * 4 + y) (((cntLb (ps.take k) l s y : Nat) : Int) + 1))
      rw [← HSTEP.out] at HSN
      have hP1 : P ≠ P + 1 := by omega
      have HXN := hidIt ((Below.heap_setCell w4 ⟨P + 1, s * 4 + y, none⟩ (.int .i64 (((cntLb (ps.take k) l s y : Nat) : Int) + 1)) P hP1).trans HX3.out)
      have HBN := hidIt (below_set5 (b := P + 1) (i := s * 4 + y) (u := .int .i64 (((cntLb (ps.take k) l s y : Nat) : Int) + 1)) HB3.out (by have := HP.out; omega))
      clear hc2 hlen hy1 hy2 hgl
      generalize cntLb (ps.take k) l s y = n at *
      have hwr : IntKind.i64.wrap ((n : Int) + 1) = (n : Int) + 1 := IntWalk.i64_in _ (by omega)
      go_big_region
      go_wp2_with fail
      go_roundw
      case rel => exact ⟨k + 1, by omega, by go_num, HSN.out, HXN.out, ⟨HBN.out.os, HBN.out.tape, HBN.out.output, HBN.out.size, HBN.out.block⟩⟩
      case measure => simp [intOf]; omega
    · have hkI : ¬ (k : Int) < (M : Int) := by omega
      have HE : Hid (TR wr (P + 1) (talR N ps l)) := by
        have := HS.out
        rwa [List.take_of_length_le (by have := HM.out; omega)] at this
      go_wp2_with fail
      go_ret
      exact ⟨_, rfl, by have := HP.out; omega, HE.out, HB.out⟩
end Go.Proofs.Ytghnojmaciljoaa

namespace Go.Proofs.Ytghnojmaciljoaa
set_option linter.unusedVariables false
set_option linter.unusedSimpArgs false
open Go Go.RowKit Go.Sort

def legC (c1 c3 : Int) : Int := if 0 < c1 then 2 else if 0 < c3 then 3 else 1
/-- The label with which a node is legal. -/
def legL (ps : List (Int × Int)) (l : List Int) (i : Nat) : Int := legC (cntLb ps l i 1) (cntLb ps l i 3)
def illTo (ps : List (Int × Int)) (l : List Int) (k : Nat) : List Nat := (List.range k).filter fun i => decide (l.getD i 0 ≠ legL ps l i)
/-- The nodes that are not legal. -/
def illL (N : Nat) (ps : List (Int × Int)) (l : List Int) : List Nat := if validB N l = true then illTo ps l N else []
theorem illTo_step (ps : List (Int × Int)) (l : List Int) (k : Nat) : illTo ps l (k + 1) = illTo ps l k ++ if l.getD k 0 = legL ps l k then [] else [k] := by
  unfold illTo
  rw [List.range_succ, List.filter_append]
  congr 1
  by_cases hx : l.getD k 0 = legL ps l k
  · rw [if_pos hx, List.filter_cons, decide_eq_false (fun h => h hx)]; rfl
  · rw [if_neg hx, List.filter_cons, decide_eq_true hx]; rfl
theorem illTo_len (ps : List (Int × Int)) (l : List Int) (k : Nat) : (illTo ps l k).length ≤ k := by
  unfold illTo
  exact Nat.le_trans (List.length_filter_le _ _) (by rw [List.length_range]; exact Nat.le_refl _)
theorem illL_len (N : Nat) (ps : List (Int × Int)) (l : List Int) : (illL N ps l).length ≤ N := by
  unfold illL
  split
  · exact illTo_len _ _ _
  · exact Nat.zero_le _

set_option maxHeartbeats 400000 in
theorem lLegal_any (c0 c1 c2 c3 : Int) (w : World) : Calls Try.prog 46 #[.agg #[.int .i64 c0, .int .i64 c1, .int .i64 c2, .int .i64 c3]] w fun e w' => e = .returned (.int .i64 (legC c1 c3)) ∧ Below w.heap.size w w' := by
  have HX := hidIt (heap_alloc_new w (.cells #[.int .i64 c0, .int .i64 c1, .int .i64 c2, .int .i64 c3] 69))
  have HB := hidIt (bgrow w (.cells #[.int .i64 c0, .int .i64 c1, .int .i64 c2, .int .i64 c3] 69))
  have HV : Hid (legC c1 c3 = if 0 < c1 then 2 else if 0 < c3 then 3 else 1) := (rfl : _ = _)
  generalize legC c1 c3 = V at *
  go_enter Try.func46, Try.ntmps46
  go_upto_region 1 with (fail)
  generalize (w.alloc (.cells #[.int .i64 c0, .int .i64 c1, .int .i64 c2, .int .i64 c3] 69)) = w1 at *
  have x1 : w1.cell? ⟨w.heap.size, 1, none⟩ = some (.int .i64 c1) := by simp [World.cell?, HX.out]
  have x3 : w1.cell? ⟨w.heap.size, 3, none⟩ = some (.int .i64 c3) := by simp [World.cell?, HX.out]
  have lx := lt_of_block HX.out
  by_cases h1 : 0 < c1
  · have HE : Hid (V = 2) := by show _ = _; rw [HV.out, if_pos h1]
    go_wp2_with fail
    go_ret
    exact ⟨ret_int HE.out.symm, HB.out⟩
  · by_cases h3 : 0 < c3
    · have HE : Hid (V = 3) := by show _ = _; rw [HV.out, if_neg h1, if_pos h3]
      go_wp2_with fail
      go_ret
      exact ⟨ret_int HE.out.symm, HB.out⟩
    · have HE : Hid (V = 1) := by show _ = _; rw [HV.out, if_neg h1, if_neg h3]
      go_wp2_with fail
      go_ret
      exact ⟨ret_int HE.out.symm, HB.out⟩

set_option maxRecDepth 100000 in
set_option maxHeartbeats 2000000 in
theorem lIllegal_any (N : Nat) (v v2 : Value) (ps : List (Int × Int)) (l : List Int) (w : World) (h : PairsAt w v ps) (hok : GOk (N : Int) ps) (hl : ps.length ≤ 1000) (hs : IL w v2 l) (hsl : l.length ≤ 1000) :
    Calls Try.prog 35 #[.agg #[.int .i64 (N : Int), v], v2] w fun e w' => ∃ (a : Option Addr) (c : Nat), e = .returned (.slice a (illL N ps l).length c) ∧ OwnI w' w.heap.size (.slice a (illL N ps l).length c) (ints (illL N ps l)) ∧ Below w.heap.size w w' := by
  have hB := bgrow w (.cells #[.int .i64 (N : Int), v] 27)
  have H1 := hidIt (h.below hB)
  have HS1 := hidIt (hs.below hB)
  obtain ⟨a, c, rfl, -⟩ := h.form
  obtain ⟨a2, c2, rfl, -⟩ := hs.form
  have HX := hidIt (heap_alloc_new w (.cells #[.int .i64 (N : Int), .slice a ps.length c] 27))
  have HB := hidIt hB
  have HOK := hidIt hok
  have hN : N ≤ 40 := by have := hok.n40; omega
  have HV : Hid (illL N ps l = if validB N l = true then illTo ps l N else []) := (rfl : _ = _)
  clear h hs hB hok
  go_enter Try.func35, Try.ntmps35
  go_upto_region 1 with (fail)
  generalize (w.alloc (.cells #[.int .i64 (N : Int), .slice a ps.length c] 27)) = w1 at *
  obtain ⟨x0, x1⟩ := And.intro (cell_two0 HX.out) (cell_two1 HX.out)
  have lx := lt_of_block HX.out
  cases hv : validB N l
  · have HE : Hid (illL N ps l = []) := by show _ = _; rw [HV.out, hv]; rfl
    have HVV := hidIt hv
    clear hv
    go_wp2_with fail
    refine (lValid_any N _ _ ps l _ H1.out HOK.out hl HS1.out hsl).mono ?_
    rw [HVV.out]
    rintro e w2 ⟨rfl, hb2⟩
    have HB2 := hidIt (HB.out.trans (Below.mono hb2 HB.out.size))
    clear hb2
    go_wp2_with fail
    go_ret
    rw [HE.out]
    exact ⟨none, 0, rfl, OwnI.nil _ _, HB2.out⟩
  have HE : Hid (illL N ps l = illTo ps l N) := by show _ = _; rw [HV.out, hv]; rfl
  have HVV := hidIt hv
  have HLN := hidIt (validB_iff.1 hv).1
  have HLAB := hidIt (validB_iff.1 hv).2
  clear hv HV
  go_wp2_with fail
  refine (lValid_any N _ _ ps l _ H1.out HOK.out hl HS1.out hsl).mono ?_
  rw [HVV.out]
  rintro e w2 ⟨rfl, hb2⟩
  have HX2 := hidIt (blk_kept2 HX.out hb2)
  have HB2 := hidIt (HB.out.trans (Below.mono hb2 HB.out.size))
  have H2 := hidIt (H1.out.below hb2)
  have HS2 := hidIt (HS1.out.below hb2)
  clear hb2 HB HX H1 HS1 x0 x1 lx
  obtain ⟨x0, x1⟩ := And.intro (cell_two0 HX2.out) (cell_two1 HX2.out)
  have lx := lt_of_block HX2.out
  go_wp2_with fail
  refine (lTallies_any N _ _ ps l _ H2.out HOK.out hl HS2.out HLN.out HLAB.out).mono ?_
  rintro e w3 ⟨R, rfl, hR, ht3, hb3⟩
  have HT3 := hidIt ht3
  have HB3 := hidIt (HB2.out.trans (Below.mono hb3 HB2.out.size))
  obtain ⟨a2', c2', he2, hic⟩ := (HS2.out.below hb3).ic
  injection he2 with he2 he3 he4
  subst he2 he4
  have HIC := hidIt hic
  have hRw : w.heap.size ≤ R := Nat.le_trans HB2.out.size hR
  clear ht3 hb3 hic he3 HX2 H2 HS2 HB2 x0 x1 lx hR
  have hll := HLN.out
  rw [hll]
  clear hll
  go_wp2_with fail
  go_loopw [5, 6, 7, 16] (fun v5 _ _ i wr => ∃ (k m : Nat) (a5 : Option Addr) (c5 : Nat), k ≤ N ∧ v5 = .slice a5 m c5 ∧ i = .int .i64 k ∧ Hid (m = (illTo ps l k).length) ∧ Hid (OwnI wr w3.heap.size (.slice a5 m c5) (ints (illTo ps l k))) ∧ Hid (Below w3.heap.size w3 wr)) (fun _ _ _ i _ => N - (intOf i).toNat)
  case atStart => exact ⟨0, 0, none, 0, Nat.zero_le _, (by first | rfl | trivial), (by first | rfl | trivial), (rfl : 0 = (illTo ps l 0).length), OwnI.nil _ _, Below.refl _ _⟩
  case round =>
    obtain ⟨k, m, a5, c5, hk, rfl, rfl, HM, HO, HBr⟩ := hrel
    have hkI0 : (0 : Int) ≤ (k : Int) := by omega
    by_cases hlt : k < N
    · have hkI : (k : Int) < (N : Int) := by omega
      have hkl : k < l.length := by have := HLN.out; omega
      have HTr := hidIt (HT3.out.go HBr.out)
      have hln : ∀ x, x < 4 → k * 4 + x < (talR N ps l).length := fun x hx => by rw [talR_len]; omega
      have t0 := HTr.out.cell (hln 0 (by decide))
      have t1 := HTr.out.cell (hln 1 (by decide))
      have t2 := HTr.out.cell (hln 2 (by decide))
      have t3 := HTr.out.cell (hln 3 (by decide))
      rw [talR_get (by decide)] at t0 t1 t2 t3
      rw [Nat.add_zero] at t0
      have HST := hidIt (illTo_step ps l k)
      have HLG : Hid (legL ps l k = legC (cntLb ps l k 1) (cntLb ps l k 3)) := (rfl : _ = _)
      have hm5 : m ≤ k := by rw [HM.out]; exact illTo_len _ _ _
      have HTL : Hid ((ints (illTo ps l k)).length = m) := by show _ = _; rw [ints_len]; exact HM.out.symm
      generalize cntLb ps l k 0 = n0 at *
      generalize cntLb ps l k 1 = n1 at *
      generalize cntLb ps l k 2 = n2 at *
      generalize cntLb ps l k 3 = n3 at *
      have hgr := bgrow wr (.cells #[.int .i64 (n0 : Int), .int .i64 (n1 : Int), .int .i64 (n2 : Int), .int .i64 (n3 : Int)] 69)
      have HQ := hidIt (heap_alloc_new wr (.cells #[.int .i64 (n0 : Int), .int .i64 (n1 : Int), .int .i64 (n2 : Int), .int .i64 (n3 : Int)] 69))
      have HO4 := hidIt (HO.out.go hgr)
      have HB4 := hidIt (HBr.out.trans (Below.mono hgr HBr.out.size))
      clear hgr hln
      go_upto_region 7 with (fail)
      generalize (wr.alloc (.cells #[.int .i64 (n0 : Int), .int .i64 (n1 : Int), .int .i64 (n2 : Int), .int .i64 (n3 : Int)] 69)) = w4 at *
      generalize wr.heap.size = Q at *
      clear t0 t1 t2 t3 HTr HO HBr
      obtain ⟨b1, o1, rfl, l1, hc1⟩ := (HIC.out.go HB4.out).at_ hkl
      have p0 := hc1 k hkl
      have hgd : l.getD k 0 = l[k] := by rw [List.getD_eq_getElem?_getD, List.getElem?_eq_getElem hkl]; rfl
      rw [hgd] at HST
      clear hc1 hgd
      generalize l[k] = z at *
      clear hkl
      have y0 : w4.cell? ⟨Q, 0, none⟩ = some (.int .i64 (n0 : Int)) := by simp [World.cell?, HQ.out]
      have y1 : w4.cell? ⟨Q, 1, none⟩ = some (.int .i64 (n1 : Int)) := by simp [World.cell?, HQ.out]
      have y2 : w4.cell? ⟨Q, 2, none⟩ = some (.int .i64 (n2 : Int)) := by simp [World.cell?, HQ.out]
      have y3 : w4.cell? ⟨Q, 3, none⟩ = some (.int .i64 (n3 : Int)) := by simp [World.cell?, HQ.out]
      have ly := lt_of_block HQ.out
      have P0 := fun y => Ext.cell p0 y
      have Y0 := fun y => Ext.cell y0 y
      have Y1 := fun y => Ext.cell y1 y
      have Y2 := fun y => Ext.cell y2 y
      have Y3 := fun y => Ext.cell y3 y
      have LY := fun y : In (Ext w4) => Nat.lt_of_lt_of_le ly (Below.size y.h)
      have HCA := hidIt (fun wx => lLegal_any (n0 : Int) (n1 : Int) (n2 : Int) (n3 : Int) wx)
      rw [← HLG.out] at HCA
      generalize legL ps l k = L at *
      by_cases he : z = L
      · have hb : (z != L) = false := by rw [he]; exact bne_self_eq_false _
        rw [if_pos he, List.append_nil] at HST
        clear he
        haveI := Ext.nonempty w4
        refine wp_region_in (Ext w4) (by kernel_rfl) (by kernel_rfl) (Ext.start w4) ?_
        repeat (go_big_quiet_step ((go_at_call 46; refine Ext.call (HCA.out _))))
        refine wpQuiet_nil ?_
        rintro w5 ⟨⟨_, h5⟩, rfl⟩
        have HO5 := hidIt (HO4.out.go h5)
        have HB5 := hidIt (HB4.out.trans (Below.mono h5 HB4.out.size))
        clear h5 P0 Y0 Y1 Y2 Y3 LY y0 y1 y2 y3 ly p0 l1
        go_wp2_with fail
        go_roundw
        case rel => exact ⟨k + 1, m, a5, c5, by omega, (by first | rfl | trivial), by go_num, (by rw [HST.out]; exact HM.out), (by rw [HST.out]; exact HO5.out), HB5.out⟩
        case measure => simp [intOf]; omega
      · have hb : (z != L) = true := bne_iff_ne.2 he
        rw [if_neg he] at HST
        clear he
        haveI := Ext.nonempty w4
        refine wp_region_in (Ext w4) (by kernel_rfl) (by kernel_rfl) (Ext.start w4) ?_
        repeat (go_big_quiet_step ((go_at_call 46; refine Ext.call (HCA.out _))))
        refine wpQuiet_nil ?_
        rintro w5 ⟨⟨_, h5⟩, rfl⟩
        have HO5 := hidIt (HO4.out.go h5)
        have HB5 := hidIt (HB4.out.trans (Below.mono h5 HB4.out.size))
        clear h5 P0 Y0 Y1 Y2 Y3 LY y0 y1 y2 y3 ly p0 l1
        have HO7 := hidIt (HO5.out.news HTL.out (.cells #[.int .i64 (k : Int)] 3))
        have HB7 := hidIt (HB5.out.trans (Below.mono (bgrow w5 (.cells #[.int .i64 (k : Int)] 3)) HB5.out.size))
        have hsz7 : w3.heap.size ≤ (w5.alloc (.cells #[.int .i64 (k : Int)] 3)).heap.size := HB7.out.size
        go_wp2_with (at_builtin; refine Hid.out ?_)
        refine hidIt ?_
        refine wpList_append_kb rfl _ _ elemI rfl w3.heap.size (.slice a5 m c5) m _ rfl HO7.out _ 1 rfl #[.int .i64 (k : Int)] 3 (heap_alloc_new _ _) rfl (one_of (by rfl)) (by omega) hsz7 ?_
        intro g8 c8 w8 hown8 hg8 hbl8
        have HB8 := hidIt (below_app5 HB7.out hg8 (fun g e => (owns_blk HO7.out g e).1) hsz7)
        have HO8 : Hid (OwnI w8 w3.heap.size (.slice (some ⟨g8, 0, none⟩) (m + 1) c8) (ints (illTo ps l (k + 1)))) := by
          have := OwnI.done HTL.out hown8
          show OwnI _ _ _ _
          rw [HST.out]
          unfold ints at this ⊢
          rw [List.map_append]
          exact this
        have HL8 : Hid (m + 1 = (illTo ps l (k + 1)).length) := by show _ = _; rw [HST.out, List.length_append, ← HM.out]; rfl
        clear hown8 hg8 hbl8 HO7 HB7 hsz7 HO5 HB5
        go_wp2_with fail
        go_roundw
        case rel => exact ⟨k + 1, m + 1, some ⟨g8, 0, none⟩, c8, by omega, (by first | rfl | trivial), by go_num, HL8.out, HO8.out, HB8.out⟩
        case measure => simp [intOf]; omega
    · obtain rfl : k = N := by omega
      have hkI : ¬ (k : Int) < (k : Int) := by omega
      have HBF := hidIt (HB3.out.trans (Below.mono HBr.out HB3.out.size))
      have HOF := hidIt (owns_mono HO.out HB3.out.size)
      go_wp2_with fail
      go_ret
      rw [HE.out, ← HM.out]
      exact ⟨a5, c5, rfl, HOF.out, HBF.out⟩

set_option maxRecDepth 100000 in
set_option maxHeartbeats 1000000 in
theorem lIsComplete_any (N : Nat) (v v2 : Value) (ps : List (Int × Int)) (l : List Int) (w : World) (h : PairsAt w v ps) (hok : GOk (N : Int) ps) (hl : ps.length ≤ 1000) (hs : IL w v2 l) (hsl : l.length ≤ 1000) :
    Calls Try.prog 20 #[.agg #[.int .i64 (N : Int), v], v2] w fun e w' => e = .returned (.bool (validB N l && decide ((illL N ps l).length = 0))) ∧ Below w.heap.size w w' := by
  have hB := bgrow w (.cells #[.int .i64 (N : Int), v] 27)
  have H1 := hidIt (h.below hB)
  have HS1 := hidIt (hs.below hB)
  obtain ⟨a, c, rfl, -⟩ := h.form
  obtain ⟨a2, c2, rfl, -⟩ := hs.form
  have HX := hidIt (heap_alloc_new w (.cells #[.int .i64 (N : Int), .slice a ps.length c] 27))
  have HB := hidIt hB
  have HOK := hidIt hok
  clear h hs hB hok
  go_enter Try.func20, Try.ntmps20
  go_upto_region 1 with (fail)
  generalize (w.alloc (.cells #[.int .i64 (N : Int), .slice a ps.length c] 27)) = w1 at *
  obtain ⟨x0, x1⟩ := And.intro (cell_two0 HX.out) (cell_two1 HX.out)
  have lx := lt_of_block HX.out
  have HVC := hidIt (lValid_any N _ _ ps l _ H1.out HOK.out hl HS1.out hsl)
  cases hv : validB N l
  · rw [hv] at HVC
    have HVV := hidIt hv
    clear hv
    go_wp2_with fail
    refine HVC.out.mono ?_
    rintro e w2 ⟨rfl, hb2⟩
    have HB2 := hidIt (HB.out.trans (Below.mono hb2 HB.out.size))
    clear hb2
    go_wp2_with fail
    go_ret
    exact ⟨ret_bool (by first | rfl | simp [HVV.out]), HB2.out⟩
  rw [hv] at HVC
  have HVV := hidIt hv
  clear hv
  go_wp2_with fail
  refine HVC.out.mono ?_
  rintro e w2 ⟨rfl, hb2⟩
  have HX2 := hidIt (blk_kept2 HX.out hb2)
  have HB2 := hidIt (HB.out.trans (Below.mono hb2 HB.out.size))
  have H2 := hidIt (H1.out.below hb2)
  have HS2 := hidIt (HS1.out.below hb2)
  clear hb2 HB HX H1 HS1 x0 x1 lx HVC
  obtain ⟨x0, x1⟩ := And.intro (cell_two0 HX2.out) (cell_two1 HX2.out)
  have lx := lt_of_block HX2.out
  go_wp2_with fail
  refine (lIllegal_any N _ _ ps l _ H2.out HOK.out hl HS2.out hsl).mono ?_
  rintro e w3 ⟨a3, c3, rfl, -, hb3⟩
  have HB3 := hidIt (HB2.out.trans (Below.mono hb3 HB2.out.size))
  clear hb3
  obtain ⟨n, hn⟩ : ∃ n, n = (illL N ps l).length := ⟨_, rfl⟩
  have HNN := hidIt hn
  rw [← hn]
  clear hn
  by_cases h0 : n = 0
  · have hb : ((n : Int) == 0) = true := beq_iff_eq.2 (by omega)
    have HD : Hid ((validB N l && decide ((illL N ps l).length = 0)) = true) := by show _ = _; rw [HVV.out, ← HNN.out, decide_eq_true h0]; rfl
    clear h0
    go_wp2_with fail
    go_ret
    exact ⟨ret_bool HD.out.symm, HB3.out⟩
  · have hb : ((n : Int) == 0) = false := beq_eq_false_iff_ne.2 (by omega)
    have HD : Hid ((validB N l && decide ((illL N ps l).length = 0)) = false) := by show _ = _; rw [HVV.out, ← HNN.out, decide_eq_false h0]; rfl
    clear h0
    go_wp2_with fail
    go_ret
    exact ⟨ret_bool HD.out.symm, HB3.out⟩
end Go.Proofs.Ytghnojmaciljoaa

namespace Go.Proofs.Ytghnojmaciljoaa
set_option linter.unusedVariables false
set_option linter.unusedSimpArgs false
open Go Go.RowKit Go.Sort

theorem pairs_blk {w : World} {b c : Nat} {ps : List (Int × Int)} {t : TypeId} (h : w.heap[b]? = some (.cells (ps.flatMap encP).toArray t (0, 0))) (hc : ps.length ≤ c) (hm : c ≤ maxLen) : PairsAt w (.slice (some ⟨b, 0, none⟩) ps.length c) ps := by
  refine .inr ⟨b, 0, c, rfl, hc, hm, lt_of_block h, fun i hi => ?_⟩
  have e0 := flatMap_get ps (i * 2) (by omega)
  have e1 := flatMap_get ps (i * 2 + 1) (by omega)
  rw [show i * 2 / 2 = i by omega, show i * 2 % 2 = 0 by omega] at e0
  rw [show (i * 2 + 1) / 2 = i by omega, show (i * 2 + 1) % 2 = 1 by omega] at e1
  constructor
  · simp [World.cell?, h, e0, encP]
  · simp [World.cell?, h, e1, encP]
theorem ints_blk {w : World} {b c : Nat} {zs : List Int} {t : TypeId} (h : w.heap[b]? = some (.cells (zs.map (Value.int .i64)).toArray t (0, 0))) (hc : zs.length ≤ c) (hm : c ≤ maxLen) : IL w (.slice (some ⟨b, 0, none⟩) zs.length c) zs :=
  .inr ⟨b, 0, c, rfl, hc, hm, lt_of_block h, fun i hi => by simp [World.cell?, h, hi]⟩
theorem IL.taken {w : World} {b n c k : Nat} {zs : List Int} (h : IL w (.slice (some ⟨b, 0, none⟩) n c) zs) (hk : k ≤ zs.length) : IL w (.slice (some ⟨b, 0, none⟩) k c) (zs.take k) := by
  rcases h with ⟨h, -⟩ | ⟨b', off, cap, h1, h2, h3, h4, h5⟩
  · cases h
  · injection h1 with h1 h6 h7
    injection h1 with h1
    injection h1 with h1 h8
    subst h1 h8 h7
    have hl : (zs.take k).length = k := by rw [List.length_take]; omega
    refine .inr ⟨b, 0, c, by rw [hl], by omega, h3, h4, fun i hi => ?_⟩
    rw [List.getElem_take]
    exact h5 i (by omega)

def exC : List (Int × Int) := [(0, 1), (1, 2)]
theorem exC_ok : GOk ((3 : Nat) : Int) exC := ⟨by decide, by decide, by decide, by decide⟩
set_option maxRecDepth 100000 in
theorem ex_fs : fsF 3 exC [2] = [3, 3, 1] := by decide
theorem ex_v1 : (validB 3 [1, 2, 1] && decide ((illL 3 exC [1, 2, 1]).length = 0)) = true := by decide
theorem ex_ill : illL 3 exC [3, 3, 1] = [0, 2] := by decide
theorem ex_cmp : cmpF [3, 3, 1] [3, 3] = 1 := by decide

end Go.Proofs.Ytghnojmaciljoaa
