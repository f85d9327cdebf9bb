/- How many attackers of each node have each label: the program's tallies; the label with which a node is legal. -/
import Derived.Test.YtfiaoibfejginaaDoorZ4L1I
import Derived.BigRegion

namespace Go.Proofs.YtfiaoibfejginaaDoor
set_option linter.unusedVariables false
set_option linter.unusedSimpArgs false
open Go Go.RowKit Go.Sort

/-- How many attackers of a node have a label. -/
def cntLb (ps : List (Int × Int)) (l : List Int) (i x : Nat) : Nat := (ps.filter fun p => p.2 == (i : Int) && l.getD p.1.toNat 0 == (x : Int)).length
theorem cntLb_len (ps : List (Int × Int)) (l : List Int) (i x : Nat) : cntLb ps l i x ≤ ps.length := List.length_filter_le _ _
theorem cntLb_step {ps : List (Int × Int)} {l : List Int} {k : Nat} (h : k < ps.length) {g s : Nat} (he : ps[k] = ((g : Int), (s : Int))) {y : Nat} (hy : l.getD g 0 = (y : Int)) (i x : Nat) :
    cntLb (ps.take (k + 1)) l i x = cntLb (ps.take k) l i x + if i = s ∧ x = y then 1 else 0 := by
  unfold cntLb
  rw [List.take_succ_eq_append_getElem h, List.filter_append, List.length_append, he]
  congr 1
  simp only [List.filter_cons, List.filter_nil, Int.toNat_natCast, hy]
  by_cases e1 : i = s
  · by_cases e2 : x = y
    · subst e1 e2; simp
    · have : ((y : Int) == (x : Int)) = false := beq_eq_false_iff_ne.2 (by omega)
      simp [e2, this]
  · have : ((s : Int) == (i : Int)) = false := beq_eq_false_iff_ne.2 (by omega)
    simp [e1, this]
/-- The row of the tallies. -/
def talR (N : Nat) (ps : List (Int × Int)) (l : List Int) : List Int := fsR (N * 4) fun j => ((cntLb ps l (j / 4) (j % 4) : Nat) : Int)
theorem talR_len (N : Nat) (ps : List (Int × Int)) (l : List Int) : (talR N ps l).length = N * 4 := fsR_len _ _
theorem talR_get {N : Nat} {ps : List (Int × Int)} {l : List Int} {i x : Nat} (hx : x < 4) (h : i * 4 + x < (talR N ps l).length) : (talR N ps l)[i * 4 + x] = ((cntLb ps l i x : Nat) : Int) := by
  have h2 := fsR_get (f := fun j => ((cntLb ps l (j / 4) (j % 4) : Nat) : Int)) h
  have e1 : (i * 4 + x) / 4 = i := by omega
  have e2 : (i * 4 + x) % 4 = x := by omega
  simp only [e1, e2] at h2
  exact h2
theorem talR_none (N : Nat) (l : List Int) : List.replicate (N * 4) 0 = talR N [] l := by
  apply List.ext_getElem
  · rw [List.length_replicate, talR_len]
  · intro i h1 h2
    have h3 := fsR_get (f := fun j => ((cntLb [] l (j / 4) (j % 4) : Nat) : Int)) h2
    rw [List.getElem_replicate]
    exact h3.symm
theorem talR_step {N : Nat} {ps : List (Int × Int)} {l : List Int} {k : Nat} (h : k < ps.length) {g s : Nat} (he : ps[k] = ((g : Int), (s : Int))) {y : Nat} (hy : l.getD g 0 = (y : Int)) (hy4 : y < 4) :
    talR N (ps.take (k + 1)) l = (talR N (ps.take k) l).set (s * 4 + y) (((cntLb (ps.take k) l s y : Nat) : Int) + 1) := by
  unfold talR
  rw [fsR_set]
  apply fsR_congr
  intro j hj
  rw [cntLb_step h he hy]
  by_cases e : j = s * 4 + y
  · subst e
    have e1 : (s * 4 + y) / 4 = s := by omega
    have e2 : (s * 4 + y) % 4 = y := by omega
    rw [if_pos rfl, e1, e2, if_pos ⟨rfl, rfl⟩]
    omega
  · rw [if_neg e, if_neg (by omega)]
    omega

/-- A block that holds the tallies. -/
def TR (w : World) (b : Nat) (zs : List Int) : Prop := w.heap[b]? = some (.cells (intRow zs) 80 (0, 0))
theorem TR.cell {w : World} {b : Nat} {zs : List Int} (h : TR w b zs) {i : Nat} (hi : i < zs.length) : w.cell? ⟨b, i, none⟩ = some (.int .i64 zs[i]) := int_cell h i hi
theorem TR.set {w : World} {b : Nat} {zs : List Int} (h : TR w b zs) (i : Nat) (z : Int) : TR (w.setCell ⟨b, i, none⟩ (.int .i64 z)) b (zs.set i z) := by
  unfold TR
  rw [set_cells h, intRow_set]
theorem TR.go {w w' : World} {b : Nat} {zs : List Int} (h : TR w b zs) (hb : Below w.heap.size w w') : TR w' b zs := blk_kept2 h hb
theorem TR.lt {w : World} {b : Nat} {zs : List Int} (h : TR w b zs) : b < w.heap.size := lt_of_block h
theorem infoT : (Tryd.prog.info? 80).map (fun i => (i.zero, i.size, i.bytes)) = some (some (.agg #[.int .i64 0, .int .i64 0, .int .i64 0, .int .i64 0]), 4, 32) := by kernel_rfl
theorem made_tal (m : Nat) : madeCells #[.int .i64 0, .int .i64 0, .int .i64 0, .int .i64 0] m = intRow (List.replicate m 0) := by
  apply Array.ext_getElem?
  intro i
  by_cases h : i < m
  · have h2 : (intRow (List.replicate m 0))[i]? = some (.int .i64 0) := by simp [intRow, h]
    rw [h2]
    unfold madeCells
    have h4 : i % 4 = 0 ∨ i % 4 = 1 ∨ i % 4 = 2 ∨ i % 4 = 3 := by omega
    simp [h]
    rcases h4 with e | e | e | e <;> rw [e] <;> rfl
  · have h1 : (intRow (List.replicate m 0))[i]? = none := Array.getElem?_eq_none (by rw [intRow_size, List.length_replicate]; omega)
    rw [h1]
    unfold madeCells
    simp
    omega
theorem make_tal (n : Nat) (hn : n ≤ 1000) (w : World) : (Instr.makeSlice 77 (.int .i64 (n : Int)) (.int .i64 (n : Int))).run Tryd.prog w = .ok (.slice (some ⟨w.heap.size, 0, none⟩) n n) (w.alloc (.cells (intRow (List.replicate (n * 4) 0)) 80)) := by
  obtain ⟨i0, hi, hz0, hz1, hz2⟩ := info_parts infoT
  have hr := run_make (P := Tryd.prog) w 77 80 i0 _ Tryd.underlying77 hi hz0 .i64 .i64 (n : Int) (n : Int) (by omega) (by omega) (by rw [hz2]; omega) (by omega)
  rw [hz1] at hr
  simp only [Int.toNat_natCast] at hr
  rw [← made_tal]
  exact hr

theorem LabOk.nat {l : List Int} (h : LabOk l) {g : Nat} (hg : g < l.length) : ∃ y : Nat, l[g] = (y : Int) ∧ l.getD g 0 = (y : Int) ∧ y < 4 ∧ 1 ≤ y := by
  have h1 := h l[g] (List.getElem_mem hg)
  refine ⟨l[g].toNat, by omega, ?_, by omega, by omega⟩
  rw [List.getD_eq_getElem?_getD, List.getElem?_eq_getElem hg]
  show l[g] = _
  omega

set_option maxRecDepth 100000 in
set_option maxHeartbeats 2000000 in
theorem lTallies_any (N : Nat) (v v2 : Value) (ps : List (Int × Int)) (l : List Int) (w : World) (h : PairsAt w v ps) (hok : GOk (N : Int) ps) (hl : ps.length ≤ 1000) (hs : IL w v2 l) (hll : l.length = N) (hlab : LabOk l) :
    Calls Tryd.prog 55 #[.agg #[.int .i64 (N : Int), v], v2] w fun e w' => ∃ b : Nat, e = .returned (.slice (some ⟨b, 0, none⟩) N N) ∧ w.heap.size ≤ b ∧ TR w' b (talR N ps l) ∧ Below w.heap.size w w' := by
  have hB := bgrow w (.cells #[.int .i64 (N : Int), v] 24)
  obtain ⟨a, c, rfl, hpc⟩ := h.pc
  obtain ⟨a2, c2, rfl, hic⟩ := hs.ic
  have HPC := hidIt hpc
  have HIC := hidIt hic
  have HX := hidIt (heap_alloc_new w (.cells #[.int .i64 (N : Int), .slice a ps.length c] 24))
  have HB := hidIt hB
  have HOK := hidIt hok
  have HLAB := hidIt hlab
  have HLL := hidIt hll
  have hN : N ≤ 40 := by have := hok.n40; omega
  have hmk := make_tal N (by omega)
  clear h hpc hB hok hs hic hlab
  rw [hll]
  clear hll
  go_enter Tryd.func55, Tryd.ntmps55
  go_upto_region 1 with (fail)
  generalize hw1 : (w.alloc (.cells #[.int .i64 (N : Int), .slice a ps.length c] 24)) = w1 at *
  have hsz1 : w1.heap.size = w.heap.size + 1 := by rw [← hw1]; simp
  clear hw1
  obtain ⟨x0, x1⟩ := And.intro (cell_two0 HX.out) (cell_two1 HX.out)
  have lx := lt_of_block HX.out
  have hb2 := bgrow w1 (.cells (intRow (List.replicate (N * 4) 0)) 80)
  have HX2 := hidIt (blk_kept2 HX.out hb2)
  have HS2 : Hid (TR (w1.alloc (.cells (intRow (List.replicate (N * 4) 0)) 80)) w1.heap.size (talR N (ps.take 0) l)) := by
    show TR _ _ _
    rw [List.take_zero, ← talR_none]
    exact heap_alloc_new w1 _
  have HB2 := hidIt (HB.out.trans (Below.mono hb2 HB.out.size))
  clear hb2
  go_upto_region 2 with (fail)
  clear hmk x0 x1 lx
  generalize (w1.alloc (.cells (intRow (List.replicate (N * 4) 0)) 80)) = w2 at *
  rw [hsz1] at HS2
  clear hsz1 HX HB
  obtain ⟨P, hP⟩ : ∃ P, P = w.heap.size := ⟨_, rfl⟩
  have HP := hidIt hP
  rw [← hP] at HX2 HS2 ⊢
  clear hP
  obtain ⟨x0, x1⟩ := And.intro (cell_two0 HX2.out) (cell_two1 HX2.out)
  have lx := lt_of_block HX2.out
  obtain ⟨M, hM⟩ : ∃ M, M = ps.length := ⟨_, rfl⟩
  have HM := hidIt hM
  rw [← hM] at hl HX2 x1 ⊢
  clear hM
  go_wp2_with fail
  go_loopw [7, 14] (fun _ i wr => ∃ k : Nat, k ≤ M ∧ i = .int .i64 k ∧ Hid (TR wr (P + 1) (talR N (ps.take k) l)) ∧ Hid (wr.heap[P]? = some (.cells #[.int .i64 (N : Int), .slice a M c] 24 (0, 0))) ∧ Hid (Below w.heap.size w wr)) (fun _ i _ => M - (intOf i).toNat)
  case atStart => exact ⟨0, Nat.zero_le _, (by first | rfl | trivial), HS2.out, HX2.out, HB2.out⟩
  case round =>
    clear HS2 HX2 HB2 x0 x1 lx
    obtain ⟨k, hk, rfl, HS, HX, HB⟩ := hrel
    have hkI0 : (0 : Int) ≤ (k : Int) := by omega
    by_cases hlt : k < M
    · have hkI : (k : Int) < (M : Int) := by omega
      have h1x : k < ps.length := by have := HM.out; omega
      obtain ⟨b1, o1, rfl, l1, hc1⟩ := (HPC.out.go HB.out).at_ h1x
      obtain ⟨p0, p1⟩ := hc1 k h1x
      have hix := HOK.out.ix ps[k] (List.getElem_mem _)
      obtain ⟨g, s, hgs⟩ : ∃ g s : Nat, ps[k] = ((g : Int), (s : Int)) := ⟨ps[k].1.toNat, ps[k].2.toNat, Prod.ext (by simp only; omega) (by simp only; omega)⟩
      rw [hgs] at p0 p1 hix
      simp only at p0 p1 hix
      have hgN : g < N := by omega
      have hsN : s < N := by omega
      have hg0 : (0 : Int) ≤ (g : Int) := by omega
      have hs0 : (0 : Int) ≤ (s : Int) := by omega
      have hgI : (g : Int) < (N : Int) := by omega
      have hsI : (s : Int) < (N : Int) := by omega
      have hgl : g < l.length := by have := HLL.out; omega
      obtain ⟨y, hy1, hy2, hy4, hy0⟩ := HLAB.out.nat hgl
      have hcn := cntLb_len (ps.take k) l s y
      rw [List.length_take] at hcn
      have hyI0 : (0 : Int) ≤ (y : Int) := by omega
      have hyI : (y : Int) < 4 := by omega
      have HSTEP := hidIt (talR_step (N := N) h1x hgs hy2 hy4)
      have hgr := bgrow wr (.cells #[.int .i64 (g : Int), .int .i64 (s : Int)] 45)
      have HQ := hidIt (heap_alloc_new wr (.cells #[.int .i64 (g : Int), .int .i64 (s : Int)] 45))
      have HS3 := hidIt (HS.out.go hgr)
      have HX3 := hidIt (blk_kept2 HX.out hgr)
      have HB3 := hidIt (HB.out.trans (Below.mono hgr HB.out.size))
      clear hc1 hix hgs hgr HX HB HS
      go_upto_region 5 with (fail)
      generalize (wr.alloc (.cells #[.int .i64 (g : Int), .int .i64 (s : Int)] 45)) = w4 at *
      generalize wr.heap.size = Q at *
      clear p0 p1 l1
      obtain ⟨y0, y1⟩ := And.intro (cell_two0 HQ.out) (cell_two1 HQ.out)
      have ly := lt_of_block HQ.out
      obtain ⟨b2, o2, rfl, l2, hc2⟩ := (HIC.out.go HB3.out).at_ hgl
      have q0 := hc2 g hgl
      rw [hy1] at q0
      have hlen : s * 4 + y < (talR N (ps.take k) l).length := by rw [talR_len]; omega
      have r0 := HS3.out.cell hlen
      rw [talR_get hy4] at r0
      have f0 := free_any HS3.out (s * 4 + y)
      have lc := HS3.out.lt
      have HSN := hidIt (HS3.out.set (s * 4 + y) (((cntLb (ps.take k) l s y : Nat) : Int) + 1))
      rw [← HSTEP.out] at HSN
      have hP1 : P ≠ P + 1 := by omega
      have HXN := hidIt ((Below.heap_setCell w4 ⟨P + 1, s * 4 + y, none⟩ (.int .i64 (((cntLb (ps.take k) l s y : Nat) : Int) + 1)) P hP1).trans HX3.out)
      have HBN := hidIt (below_set5 (b := P + 1) (i := s * 4 + y) (u := .int .i64 (((cntLb (ps.take k) l s y : Nat) : Int) + 1)) HB3.out (by have := HP.out; omega))
      clear hc2 hlen hy1 hy2 hgl
      generalize cntLb (ps.take k) l s y = n at *
      have hwr : IntKind.i64.wrap ((n : Int) + 1) = (n : Int) + 1 := IntWalk.i64_in _ (by omega)
      go_big_region
      go_wp2_with fail
      go_roundw
      case rel => exact ⟨k + 1, by omega, by go_num, HSN.out, HXN.out, ⟨HBN.out.os, HBN.out.tape, HBN.out.output, HBN.out.size, HBN.out.block⟩⟩
      case measure => simp [intOf]; omega
    · have hkI : ¬ (k : Int) < (M : Int) := by omega
      have HE : Hid (TR wr (P + 1) (talR N ps l)) := by
        have := HS.out
        rwa [List.take_of_length_le (by have := HM.out; omega)] at this
      go_wp2_with fail
      go_ret
      exact ⟨_, rfl, by have := HP.out; omega, HE.out, HB.out⟩
end Go.Proofs.YtfiaoibfejginaaDoor
