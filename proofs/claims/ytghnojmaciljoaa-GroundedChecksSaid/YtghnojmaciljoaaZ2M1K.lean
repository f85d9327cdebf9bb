/- Do ranks prove a labelling: the program's proves. -/
import Derived.Test.YtghnojmaciljoaaZ2M1I
import Derived.BigQuiet

namespace Go.Proofs.Ytghnojmaciljoaa
set_option linter.unusedVariables false
set_option linter.unusedSimpArgs false
open Go Go.RowKit Go.Sort

def defB (l r : List Int) (p : Int × Int) : Bool := decide (l.getD p.1.toNat 0 = 1) && (decide (1 ≤ r.getD p.1.toNat 0) && decide (r.getD p.1.toNat 0 ≤ r.getD p.2.toNat 0))
/-- Is a node defeated by one of the attacks? -/
def defd (ps : List (Int × Int)) (l r : List Int) (i : Nat) : Bool := ps.any fun p => p.2 == (i : Int) && defB l r p
def badP (l r : List Int) (p : Int × Int) : Bool := decide (l.getD p.2.toNat 0 = 1) && decide (r.getD p.2.toNat 0 ≤ r.getD p.1.toNat 0)
def badN (ps : List (Int × Int)) (l r : List Int) (i : Nat) : Bool := (decide (l.getD i 0 = 1) && decide (r.getD i 0 < 1)) || (decide (l.getD i 0 = 2) && !defd ps l r i)
def provB (N : Nat) (ps : List (Int × Int)) (l r : List Int) : Bool := !(ps.any (badP l r)) && !((List.range N).any (badN ps l r))
theorem defd_iff {N : Nat} {ps : List (Int × Int)} (hix : ∀ p ∈ ps, (0 ≤ p.1 ∧ p.1 < (N : Int)) ∧ (0 ≤ p.2 ∧ p.2 < (N : Int))) {l r : List Int} {i : Nat} : defd ps l r i = true ↔ ∃ k, At ps k i ∧ l.getD k 0 = 1 ∧ 1 ≤ r.getD k 0 ∧ r.getD k 0 ≤ r.getD i 0 := by
  unfold defd At
  rw [List.any_eq_true]
  constructor
  · rintro ⟨p, hp, h⟩
    have := hix p hp
    unfold defB at h
    simp only [Bool.and_eq_true, beq_iff_eq, decide_eq_true_eq] at h
    obtain ⟨h1, h2, h3, h4⟩ := h
    have e : ((p.1.toNat : Int), (i : Int)) = p := Prod.ext (by simp only; omega) h1.symm
    rw [h1, Int.toNat_natCast] at h4
    exact ⟨p.1.toNat, by rw [e]; exact hp, h2, h3, h4⟩
  · rintro ⟨k, hk, h2, h3, h4⟩
    refine ⟨_, hk, ?_⟩
    unfold defB
    simp only [Bool.and_eq_true, beq_iff_eq, decide_eq_true_eq, Int.toNat_natCast]
    exact ⟨trivial, h2, h3, h4⟩
theorem provB_iff {N : Nat} {ps : List (Int × Int)} (hix : ∀ p ∈ ps, (0 ≤ p.1 ∧ p.1 < (N : Int)) ∧ (0 ≤ p.2 ∧ p.2 < (N : Int))) {l r : List Int} : provB N ps l r = true ↔ Prov N ps l r := by
  unfold provB
  rw [Bool.and_eq_true, Bool.not_eq_true', Bool.not_eq_true', List.any_eq_false, List.any_eq_false]
  constructor
  · rintro ⟨h1, h2⟩
    have key : ∀ i, i < N → ¬ (badN ps l r i = true) := fun i hi => h2 i (List.mem_range.2 hi)
    refine ⟨fun i hi e => ⟨?_, fun k hk => ?_⟩, fun i hi e => ?_⟩
    · refine Classical.byContradiction fun hlt => key i hi ?_
      unfold badN
      simp only [Bool.or_eq_true, Bool.and_eq_true, decide_eq_true_eq]
      exact .inl ⟨e, by omega⟩
    · refine Classical.byContradiction fun hlt => h1 _ hk ?_
      unfold badP
      simp only [Int.toNat_natCast, Bool.and_eq_true, decide_eq_true_eq]
      exact ⟨e, by omega⟩
    · refine (defd_iff hix).1 ?_
      cases hd : defd ps l r i
      · refine absurd ?_ (key i hi)
        unfold badN
        simp only [Bool.or_eq_true, Bool.and_eq_true, decide_eq_true_eq, Bool.not_eq_true']
        exact .inr ⟨e, hd⟩
      · rfl
  · intro h
    refine ⟨fun p hp hb => ?_, fun i hi hb => ?_⟩
    · have hx := hix p hp
      unfold badP at hb
      simp only [Bool.and_eq_true, decide_eq_true_eq] at hb
      have e : ((p.1.toNat : Int), (p.2.toNat : Int)) = p := Prod.ext (by simp only; omega) (by simp only; omega)
      have hat : At ps p.1.toNat p.2.toNat := by unfold At; rw [e]; exact hp
      have := (h.inn p.2.toNat (by omega) hb.1).2 p.1.toNat hat
      omega
    · have hi := List.mem_range.1 hi
      unfold badN at hb
      simp only [Bool.or_eq_true, Bool.and_eq_true, decide_eq_true_eq, Bool.not_eq_true'] at hb
      rcases hb with ⟨h1, h2⟩ | ⟨h1, h2⟩
      · have := (h.inn i hi h1).1; omega
      · rw [(defd_iff hix).2 (h.out i hi h1)] at h2; cases h2
/-- The row of the marks. -/
def dRow (ps : List (Int × Int)) (l r : List Int) : Array Value := ((List.range 40).map fun i => Value.bool (defd ps l r i)).toArray
theorem dRow_none (l r : List Int) : dRow [] l r = (List.replicate 40 (Value.bool false)).toArray := by
  unfold dRow
  congr 1
theorem dRow_get {ps : List (Int × Int)} {l r : List Int} {i : Nat} (h : i < 40) : (dRow ps l r)[i]? = some (.bool (defd ps l r i)) := by
  unfold dRow
  rw [List.getElem?_toArray, List.getElem?_map, List.getElem?_range h]; rfl
theorem defd_step {ps : List (Int × Int)} {l r : List Int} {k : Nat} (h : k < ps.length) (i : Nat) : defd (ps.take (k + 1)) l r i = (defd (ps.take k) l r i || (ps[k].2 == (i : Int) && defB l r ps[k])) := by
  unfold defd
  rw [List.take_succ_eq_append_getElem h, List.any_append]
  simp
theorem dRow_miss {ps : List (Int × Int)} {l r : List Int} {k : Nat} (h : k < ps.length) (hd : defB l r ps[k] = false) : dRow (ps.take (k + 1)) l r = dRow (ps.take k) l r := by
  unfold dRow
  congr 1
  refine List.map_congr_left fun i _ => ?_
  rw [defd_step h, hd, Bool.and_false, Bool.or_false]
theorem dRow_hit {ps : List (Int × Int)} {l r : List Int} {k : Nat} (h : k < ps.length) (hd : defB l r ps[k] = true) {t : Nat} (ht : ps[k].2 = (t : Int)) : dRow (ps.take (k + 1)) l r = (dRow (ps.take k) l r).setIfInBounds t (.bool true) := by
  unfold dRow
  rw [List.setIfInBounds_toArray]
  congr 1
  apply List.ext_getElem (by simp)
  intro i h1 h2
  rw [List.getElem_set, List.getElem_map, List.getElem_map, List.getElem_range, defd_step h, hd, ht, Bool.and_true]
  by_cases e : t = i
  · subst e; simp
  · rw [if_neg e, beq_eq_false_iff_ne.2 (by omega), Bool.or_false]
theorem any_takeS {α : Type} {ps : List α} {k : Nat} (h : k < ps.length) (f : α → Bool) : (ps.take (k + 1)).any f = ((ps.take k).any f || f ps[k]) := by
  rw [List.take_succ_eq_append_getElem h, List.any_append]
  simp
theorem rangeS (N k : Nat) (f : Nat → Bool) : (List.range (k + 1)).any f = ((List.range k).any f || f k) := by
  rw [List.range_succ, List.any_append]
  simp

set_option maxRecDepth 100000 in
set_option maxHeartbeats 8000000 in
theorem uProves_any (N : Nat) (v v1 v2 : Value) (ps : List (Int × Int)) (l r : List Int) (w : World) (h : PairsAt w v ps) (hok : GOk (N : Int) ps) (hpl : ps.length ≤ 2000) (h1 : IL w v1 l) (h2 : IL w v2 r) (hll : l.length = N) (hrl : r.length = N) (hlo : LabOk l) :
    Calls Try.prog 31 #[.agg #[.int .i64 (N : Int), v], v1, v2] w fun e w' => e = .returned (.bool (provB N ps l r)) ∧ Below w.heap.size w w' := by
  have hgr := bgrow w (.cells #[.int .i64 (N : Int), v] 27)
  obtain ⟨a, c, rfl, hpc⟩ := h.pc
  obtain ⟨a1, c1, rfl, hic⟩ := h1.ic
  obtain ⟨a2, c2, rfl, hjc⟩ := h2.ic
  have HPC := hidIt hpc
  have HIC := hidIt hic
  have HJC := hidIt hjc
  have HOK := hidIt hok
  have HLO := hidIt hlo
  have HLL := hidIt hll
  have HRL := hidIt hrl
  have hN : N ≤ 40 := by have := hok.n40; omega
  have HX := hidIt (heap_alloc_new w (.cells #[.int .i64 (N : Int), .slice a ps.length c] 27))
  have HB := hidIt hgr
  rw [hll, hrl]
  clear h h1 h2 hpc hic hjc hok hlo hll hrl hgr
  go_enter Try.func31, Try.ntmps31
  go_upto_region 1 with (fail)
  generalize hw1 : (w.alloc (.cells #[.int .i64 (N : Int), .slice a ps.length c] 27)) = w1 at *
  have hsz1 : w1.heap.size = w.heap.size + 1 := by rw [← hw1]; simp
  clear hw1
  have hg2 := bgrow w1 (.cells (dRow [] l r) 65)
  have HD2 := hidIt (heap_alloc_new w1 (.cells (dRow [] l r) 65))
  have HX2 := hidIt (blk_kept2 HX.out hg2)
  have HB2 := hidIt (HB.out.trans (Below.mono hg2 HB.out.size))
  rw [dRow_none] at HD2 HX2 HB2
  go_upto_region 2 with (fail)
  change Code.wp _ _ _ _ (w1.alloc (.cells (List.replicate 40 (Value.bool false)).toArray 65))
  generalize (w1.alloc (.cells (List.replicate 40 (Value.bool false)).toArray 65)) = w2 at *
  rw [hsz1] at HD2
  obtain ⟨P, hP⟩ : ∃ P, P = w.heap.size := ⟨_, rfl⟩
  have HP := hidIt hP
  rw [← hP] at HX2 HD2 ⊢
  clear hP hsz1 HX HB hg2
  have HD3 : Hid (w2.heap[P + 1]? = some (.cells (dRow (ps.take 0) l r) 65 (0, 0))) := by
    show _ = _
    rw [List.take_zero, dRow_none]
    exact HD2.out
  clear HD2
  obtain ⟨x0, x1⟩ := And.intro (cell_two0 HX2.out) (cell_two1 HX2.out)
  have lx := lt_of_block HX2.out
  obtain ⟨M, hM⟩ : ∃ M, M = ps.length := ⟨_, rfl⟩
  have HM := hidIt hM
  rw [← hM] at hpl HX2 x1 ⊢
  clear hM
  have HPB := hidIt (PC.pcb (B := w.heap.size) HPC.out (Nat.le_refl _))
  go_wp2_with fail
  go_loopw [9, 10, 11, 17] (fun _ _ _ v17 wr => ∃ k : Nat, k ≤ M ∧ v17 = .int .i64 k ∧ Hid ((ps.take k).any (badP l r) = false) ∧ Hid (wr.heap[P + 1]? = some (.cells (dRow (ps.take k) l r) 65 (0, 0))) ∧ Hid (Below w.heap.size w wr)) (fun _ _ _ v17 _ => M - (intOf v17).toNat)
  case atStart => exact ⟨0, Nat.zero_le _, (by first | rfl | trivial), (rfl : _ = _), HD3.out, HB2.out⟩
  case round =>
    clear HD3 HB2 x0 x1 lx HX2
    obtain ⟨k, hk, rfl, HBAD, HD, HB⟩ := hrel
    have hk0 : (0 : Int) ≤ (k : Int) := by omega
    by_cases hlt : k < M
    · have hkI : (k : Int) < (M : Int) := by omega
      have h1x : k < ps.length := by have := HM.out; omega
      obtain ⟨b1, o1, rfl, l1, hc1⟩ := (HPC.out.go HB.out).at_ h1x
      obtain ⟨p0, p1⟩ := hc1 k h1x
      have hix := HOK.out.ix ps[k] (List.getElem_mem _)
      obtain ⟨g, t, hgs⟩ : ∃ g t : Nat, ps[k] = ((g : Int), (t : Int)) := ⟨ps[k].1.toNat, ps[k].2.toNat, Prod.ext (by simp only; omega) (by simp only; omega)⟩
      have HBS := hidIt (any_takeS h1x (badP l r))
      have HMIS := hidIt (fun a => dRow_miss (l := l) (r := r) h1x a)
      have HHIT := hidIt (fun a => dRow_hit (l := l) (r := r) (t := t) h1x a (by rw [hgs]))
      have HIN := hidIt (List.getElem_mem h1x)
      rw [hgs] at p0 p1 hix HBS HMIS HHIT HIN
      simp only at p0 p1 hix
      have hgN : g < N := by omega
      have htN : t < N := by omega
      have hg0 : (0 : Int) ≤ (g : Int) := by omega
      have ht0 : (0 : Int) ≤ (t : Int) := by omega
      have hgI : (g : Int) < (N : Int) := by omega
      have htI : (t : Int) < (N : Int) := by omega
      have ht40 : (t : Int) < 40 := by omega
      have ht4 : t < 40 := by omega
      have hgl : g < l.length := by rw [HLL.out]; exact hgN
      have htl : t < l.length := by rw [HLL.out]; exact htN
      have hgr2 : g < r.length := by rw [HRL.out]; exact hgN
      have htr2 : t < r.length := by rw [HRL.out]; exact htN
      have hgr := bgrow wr (.cells #[.int .i64 (g : Int), .int .i64 (t : Int)] 43)
      have HQ := hidIt (heap_alloc_new wr (.cells #[.int .i64 (g : Int), .int .i64 (t : Int)] 43))
      have HD5 := hidIt (blk_kept2 HD.out hgr)
      have HB5 := hidIt (HB.out.trans (Below.mono hgr HB.out.size))
      have hSQ : wr.heap.size ≠ P + 1 := by have := lt_of_block HD.out; omega
      clear hc1 hix hgs hgr HD HB
      go_upto_region 5 with (fail)
      generalize (wr.alloc (.cells #[.int .i64 (g : Int), .int .i64 (t : Int)] 43)) = w5 at *
      generalize wr.heap.size = Q at *
      clear p0 p1 l1
      obtain ⟨y0, y1⟩ := And.intro (cell_two0 HQ.out) (cell_two1 HQ.out)
      have ly := lt_of_block HQ.out
      obtain ⟨bl, ol, rfl, ll1, hcl⟩ := (HIC.out.go HB5.out).at_ hgl
      have qg := hcl g hgl
      have qt := hcl t htl
      obtain ⟨br, or, rfl, lr1, hcr⟩ := (HJC.out.go HB5.out).at_ hgr2
      have sg := hcr g hgr2
      have st := hcr t htr2
      have HBE : Hid (badP l r ((g : Int), (t : Int)) = (decide (l[t] = 1) && decide (r[t] ≤ r[g]))) := by
        show _ = _
        unfold badP
        simp only [Int.toNat_natCast, getD_at htl, getD_at hgr2, getD_at htr2]
      have HDE : Hid (defB l r ((g : Int), (t : Int)) = (decide (l[g] = 1) && (decide (1 ≤ r[g]) && decide (r[g] ≤ r[t])))) := by
        show _ = _
        unfold defB
        simp only [Int.toNat_natCast, getD_at hgl, getD_at hgr2, getD_at htr2]
      clear hcl hcr
      generalize l[g] = lg at *
      generalize l[t] = lt at *
      generalize r[g] = rg at *
      generalize r[t] = rt at *
      clear hgl htl hgr2 htr2
      go_quiet (fail)
      have HQ6 : Hid ((w5.drewN nq).heap[Q]? = some (.cells #[.int .i64 (g : Int), .int .i64 (t : Int)] 43 (0, 0))) := HQ.out
      have HD6 : Hid ((w5.drewN nq).heap[P + 1]? = some (.cells (dRow (ps.take k) l r) 65 (0, 0))) := HD5.out
      have HB6 := hidIt (HB5.out.trans (below_drewN _ nq _))
      have qg6 : (w5.drewN nq).cell? ⟨bl, ol + g, none⟩ = some (.int .i64 lg) := qg
      have qt6 : (w5.drewN nq).cell? ⟨bl, ol + t, none⟩ = some (.int .i64 lt) := qt
      have ll6 : bl < (w5.drewN nq).heap.size := ll1
      clear y0 y1 ly qg qt sg st ll1 lr1 HQ HD5 HB5
      generalize w5.drewN nq = w6 at *
      obtain ⟨y0, y1⟩ := And.intro (cell_two0 HQ6.out) (cell_two1 HQ6.out)
      have ly := lt_of_block HQ6.out
      by_cases hbad : lt = 1 ∧ rt ≤ rg
      · obtain ⟨hb1, hb2⟩ := hbad
        subst hb1
        have HF : Hid (provB N ps l r = false) := by
          show _ = _
          unfold provB
          have : ps.any (badP l r) = true := List.any_eq_true.2 ⟨_, HIN.out, by rw [HBE.out, decide_eq_true rfl, decide_eq_true hb2]; rfl⟩
          rw [this]; rfl
        go_wp2_with fail
        go_ret
        exact ⟨ret_bool HF.out.symm, HB6.out⟩
      have HNB : Hid ((ps.take (k + 1)).any (badP l r) = false) := by
        show _ = _
        rw [HBS.out, HBAD.out, HBE.out]
        by_cases e1 : lt = 1
        · rw [decide_eq_true e1, decide_eq_false (fun h => hbad ⟨e1, h⟩)]; rfl
        · rw [decide_eq_false e1]; rfl
      have hcase : (lt = 1 ∧ ¬ rt ≤ rg) ∨ (lt == 1) = false := by
        by_cases e1 : lt = 1
        · exact .inl ⟨e1, fun h => hbad ⟨e1, h⟩⟩
        · exact .inr (beq_eq_false_iff_ne.2 e1)
      have fo := free_any HD6.out t
      have xo : w6.cell? ⟨P + 1, t, none⟩ = some (.bool (defd (ps.take k) l r t)) := by simp only [World.cell?, HD6.out]; exact dRow_get ht4
      have lo := lt_of_block HD6.out
      have HSET := hidIt (set_cells (i := t) (u := .bool true) HD6.out)
      have HB7 : Hid (Below w.heap.size w (w6.setCell ⟨P + 1, t, none⟩ (.bool true))) := below_set5 HB6.out (by have := HP.out; omega)
      generalize defd (ps.take k) l r t = dd at *
      have hB : ((lg == 1) = false ∧ defB l r ((g : Int), (t : Int)) = false) ∨ (lg = 1 ∧ ¬ 1 ≤ rg ∧ defB l r ((g : Int), (t : Int)) = false) ∨ (lg = 1 ∧ 1 ≤ rg ∧ ¬ rg ≤ rt ∧ defB l r ((g : Int), (t : Int)) = false) ∨ (lg = 1 ∧ 1 ≤ rg ∧ rg ≤ rt ∧ defB l r ((g : Int), (t : Int)) = true) := by
        rw [HDE.out]
        by_cases e1 : lg = 1
        · by_cases e2 : 1 ≤ rg
          · by_cases e3 : rg ≤ rt
            · exact .inr (.inr (.inr ⟨e1, e2, e3, by rw [decide_eq_true e1, decide_eq_true e2, decide_eq_true e3]; rfl⟩))
            · exact .inr (.inr (.inl ⟨e1, e2, e3, by rw [decide_eq_true e1, decide_eq_true e2, decide_eq_false e3]; rfl⟩))
          · exact .inr (.inl ⟨e1, e2, by rw [decide_eq_true e1, decide_eq_false e2]; rfl⟩)
        · exact .inl ⟨beq_eq_false_iff_ne.2 e1, by rw [decide_eq_false e1]; rfl⟩
      clear hbad HBE HBS HBAD HDE
      rcases hcase with ⟨rfl, hna⟩ | hna
      all_goals (
        rcases hB with ⟨hb1, hd⟩ | ⟨rfl, hb1, hd⟩ | ⟨rfl, hb1, hb2, hd⟩ | ⟨rfl, hb1, hb2, hd⟩
        · have HN := hidIt (HMIS.out hd)
          clear hd
          go_wp2_with fail
          go_roundw
          case rel => exact ⟨k + 1, by omega, by go_num, HNB.out, by rw [HN.out]; exact HD6.out, HB6.out⟩
          case measure => simp [intOf]; omega
        · have HN := hidIt (HMIS.out hd)
          clear hd
          go_wp2_with fail
          go_roundw
          case rel => exact ⟨k + 1, by omega, by go_num, HNB.out, by rw [HN.out]; exact HD6.out, HB6.out⟩
          case measure => simp [intOf]; omega
        · first
            | (exfalso; omega)
            | (have HN := hidIt (HMIS.out hd)
               clear hd
               go_wp2_with fail
               go_roundw
               case rel => exact ⟨k + 1, by omega, by go_num, HNB.out, by rw [HN.out]; exact HD6.out, HB6.out⟩
               case measure => simp [intOf]; omega)
        · have HN := hidIt (HHIT.out hd)
          clear hd
          go_wp2_with fail
          go_roundw
          case rel => exact ⟨k + 1, by omega, by go_num, HNB.out, by rw [HN.out]; exact HSET.out, HB7.out⟩
          case measure => simp [intOf]; omega)
    · obtain rfl : k = M := by omega
      have hkI : ¬ (k : Int) < (k : Int) := by omega
      have HDF : Hid (wr.heap[P + 1]? = some (.cells (dRow ps l r) 65 (0, 0))) := by
        have h := HD.out
        rwa [List.take_of_length_le (by have := HM.out; omega)] at h
      have HBF : Hid (ps.any (badP l r) = false) := by
        have h := HBAD.out
        rwa [List.take_of_length_le (by have := HM.out; omega)] at h
      have HB9 := HB
      clear HD HBAD HB
      generalize wr = w9 at *
      go_wp2_with fail
      go_loopw [12, 13, 63] (fun _ _ v63 wr => ∃ i : Nat, i ≤ N ∧ v63 = .int .i64 i ∧ wr = w9 ∧ Hid ((List.range i).any (badN ps l r) = false)) (fun _ _ v63 _ => N - (intOf v63).toNat)
      case atStart => exact ⟨0, Nat.zero_le _, (by first | rfl | trivial), (by first | rfl | trivial), (rfl : _ = _)⟩
      case round =>
        obtain ⟨i, hi, rfl, rfl, HBI⟩ := hrel
        have hi0 : (0 : Int) ≤ (i : Int) := by omega
        by_cases hlt2 : i < N
        · have hiI : (i : Int) < (N : Int) := by omega
          have hi40 : (i : Int) < 40 := by omega
          have hil : i < l.length := by rw [HLL.out]; exact hlt2
          have hir : i < r.length := by rw [HRL.out]; exact hlt2
          obtain ⟨bl, ol, rfl, ll1, hcl⟩ := (HIC.out.go HB9.out).at_ hil
          have qi := hcl i hil
          obtain ⟨br, or, rfl, lr1, hcr⟩ := (HJC.out.go HB9.out).at_ hir
          have si := hcr i hir
          have HBE : Hid (badN ps l r i = ((decide (l[i] = 1) && decide (r[i] < 1)) || (decide (l[i] = 2) && !defd ps l r i))) := by
            show _ = _
            unfold badN
            simp only [getD_at hil, getD_at hir]
          have hlab := HLO.out l[i] (List.getElem_mem hil)
          have HRS := hidIt (rangeS N i (badN ps l r))
          have HBAD : Hid (badN ps l r i = true → provB N ps l r = false) := fun hb => by
            have : (List.range N).any (badN ps l r) = true := List.any_eq_true.2 ⟨i, List.mem_range.2 hlt2, hb⟩
            unfold provB
            rw [this, Bool.not_true, Bool.and_false]
          have xo : wr.cell? ⟨P + 1, i, none⟩ = some (.bool (defd ps l r i)) := by simp only [World.cell?, HDF.out]; exact dRow_get (by omega)
          have lo := lt_of_block HDF.out
          clear hcl hcr
          generalize l[i] = li at *
          generalize r[i] = ri at *
          generalize defd ps l r i = dd at *
          generalize badN ps l r i = bn at *
          clear hil hir
          rcases hlab with rfl | rfl | rfl
          · by_cases hr : ri < 1
            · have HF := hidIt (HBAD.out (by rw [HBE.out]; simp [hr]))
              go_wp2_with fail
              go_ret
              exact ⟨ret_bool HF.out.symm, HB9.out⟩
            · have hbn : bn = false := by rw [HBE.out]; simp [hr]
              have HN : Hid ((List.range (i + 1)).any (badN ps l r) = false) := by show _ = _; rw [HRS.out, HBI.out, hbn]; rfl
              clear hbn
              go_wp2_with fail
              go_roundw
              case rel => exact ⟨i + 1, by omega, by go_num, (by first | rfl | trivial), HN.out⟩
              case measure => simp [intOf]; omega
          · cases hdd : dd
            · have HF := hidIt (HBAD.out (by rw [HBE.out, hdd]; simp))
              subst hdd
              go_wp2_with fail
              go_ret
              exact ⟨ret_bool HF.out.symm, HB9.out⟩
            · have hbn : bn = false := by rw [HBE.out, hdd]; simp
              have HN : Hid ((List.range (i + 1)).any (badN ps l r) = false) := by show _ = _; rw [HRS.out, HBI.out, hbn]; rfl
              subst hdd
              clear hbn
              go_wp2_with fail
              go_roundw
              case rel => exact ⟨i + 1, by omega, by go_num, (by first | rfl | trivial), HN.out⟩
              case measure => simp [intOf]; omega
          · have hbn : bn = false := by rw [HBE.out]; simp
            have HN : Hid ((List.range (i + 1)).any (badN ps l r) = false) := by show _ = _; rw [HRS.out, HBI.out, hbn]; rfl
            clear hbn
            go_wp2_with fail
            go_roundw
            case rel => exact ⟨i + 1, by omega, by go_num, (by first | rfl | trivial), HN.out⟩
            case measure => simp [intOf]; omega
        · obtain rfl : i = N := by omega
          have hiI : ¬ (i : Int) < (i : Int) := by omega
          have HF : Hid (provB i ps l r = true) := by
            show _ = _
            unfold provB
            rw [HBF.out, HBI.out]; rfl
          go_wp2_with fail
          go_ret
          exact ⟨ret_bool HF.out.symm, HB9.out⟩
end Go.Proofs.Ytghnojmaciljoaa
