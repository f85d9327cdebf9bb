/- A pair in a list; Has, Attackers, Attacked: the program's and the reference's. -/
import Derived.Test.YtfiaoibfejginaaDoorG0V
namespace Go.Proofs.YtfiaoibfejginaaDoor
set_option linter.unusedVariables false
set_option linter.unusedSimpArgs false
open Go Go.RowKit Go.Sort

theorem below_of_alloc {w w1 : World} {o : Obj} (hb : Below (w.alloc o).heap.size (w.alloc o) w1) : Below w.heap.size w w1 := ((Below.refl _ _).alloc (Nat.le_refl _) o).trans (hb.mono (by simp))
theorem take_snoc (xs : List (Int × Int)) (k : Nat) (h : k < xs.length) : xs.take (k + 1) = xs.take k ++ [xs[k]!] := by
  rw [getElem_bang h]; exact List.take_succ_eq_append_getElem h
theorem mem_take_succ {xs : List (Int × Int)} {x : (Int × Int)} {k : Nat} (hk : k < xs.length) : x ∈ xs.take (k + 1) ↔ x ∈ xs.take k ∨ x = xs[k]! := by
  rw [take_snoc xs k hk, List.mem_append, List.mem_singleton]

theorem not_mem_succ {xs : List (Int × Int)} {x : (Int × Int)} {k : Nat} (hk : k < xs.length) (h1 : x ∉ xs.take k) (h2 : x ≠ xs[k]!) : x ∉ xs.take (k + 1) := fun hm =>
  (mem_take_succ hk).1 hm |>.elim h1 h2

set_option maxRecDepth 100000 in
set_option maxHeartbeats 1000000 in
theorem rgHas_any (n : Int) (v : Value) (xs : List (Int × Int)) (f t : Int) (w : World) (h : PairsAt w v xs) (hl : xs.length ≤ 1000000) :
    Calls Tryd.prog 41 #[.agg #[.int .i64 n, v], .int .i64 f, .int .i64 t] w fun e w' => e = .returned (.bool (decide ((f, t) ∈ vL n xs))) ∧ Below w.heap.size w w' := by
  have hB := bgrow w (.cells #[.int .i64 n, v] 24)
  have h1 := h.below hB
  have HV := hidIt (h.valid n)
  obtain ⟨a, c, rfl, -⟩ := h.form
  have HX := hidIt (heap_alloc_new w (.cells #[.int .i64 n, .slice a xs.length c] 24))
  have HB := hidIt hB
  have H1 := hidIt h1
  have HL := hidIt hl
  clear h h1 hB hl
  go_enter Tryd.func41, Tryd.ntmps41
  go_upto_region 1 with (fail)
  generalize (w.alloc (.cells #[.int .i64 n, .slice a xs.length c] 24)) = w1 at *
  obtain ⟨x0, x1⟩ := And.intro (cell_two0 HX.out) (cell_two1 HX.out)
  have lx := lt_of_block HX.out
  go_wp2_with fail
  refine (rgvalid_any n _ xs _ H1.out HL.out).mono ?_
  rintro e w2 ⟨rfl, hb⟩
  have HX2 := hidIt (blk_kept2 HX.out hb)
  have HLN : Hid ((vL n xs).length ≤ 1000000) := Nat.le_trans (vL_len n xs) HL.out
  have HB2 := hidIt (HB.out.trans (Below.mono hb HB.out.size))
  clear hb x0 x1 lx HX H1 HL HB
  generalize hps : vL n xs = ps at *
  have HPS := hidIt hps
  clear hps
  generalize vN n xs = m at *
  generalize vV n xs _ = v' at *
  obtain ⟨a', c', rfl, hpc⟩ := HV.out.pc
  have HB3 := hidIt (below_set5 (i := 1) (u := .slice a' ps.length c') (below_set5 (i := 0) (u := .int .i64 m) HB2.out (Nat.le_refl _)) (Nat.le_refl _))
  have HX3 := hidIt (box_set2 (x := .int .i64 m) (y := .slice a' ps.length c') HX2.out)
  have HPC := hidIt (hpc.go HB3.out)
  obtain ⟨x0, x1⟩ := And.intro (cell_two0 HX2.out) (cell_two1 HX2.out)
  have lx := lt_of_block HX2.out
  have f0 := free_any HX2.out 0
  have f1 := free_any HX2.out 1
  clear hpc
  go_upto_region 3 with (fail)
  generalize ((w2.setCell ⟨w.heap.size, 0, none⟩ (.int .i64 m)).setCell ⟨w.heap.size, 1, none⟩ (.slice a' ps.length c')) = w3 at *
  clear x0 x1 lx f0 f1
  obtain ⟨x0, x1⟩ := And.intro (cell_two0 HX3.out) (cell_two1 HX3.out)
  have lx := lt_of_block HX3.out
  obtain ⟨M, hM⟩ : ∃ M, M = ps.length := ⟨_, rfl⟩
  have HM := hidIt hM
  rw [← hM] at HX3 x1 HLN ⊢
  clear hM
  have hMn := HLN.out
  go_loopw [7] (fun i wr => ∃ k : Nat, k ≤ M ∧ i = .int .i64 k ∧ wr = w3 ∧ Hid ((f, t) ∉ ps.take k)) (fun i _ => M - (intOf i).toNat)
  case atStart => exact ⟨0, Nat.zero_le _, (by first | rfl | trivial), (by first | rfl | trivial), (show (f, t) ∉ ps.take 0 from by simp)⟩
  case round =>
    obtain ⟨k, hk, rfl, rfl, HT⟩ := hrel
    have hkI0 : (0 : Int) ≤ (k : Int) := by omega
    by_cases hlt : k < M
    · have hkI : (k : Int) < (M : Int) := by omega
      have HLT : Hid (k < ps.length) := by show k < _; rw [← HM.out]; exact hlt
      obtain ⟨b, off, rfl, lb, hcs⟩ := HPC.out.at_ HLT.out
      obtain ⟨p0, p1⟩ := hcs k HLT.out
      obtain ⟨x, hx⟩ : ∃ x, x = ps[k]'HLT.out := ⟨_, rfl⟩
      rw [← hx] at p0 p1
      have EX := hidIt hx
      clear hx hcs
      obtain ⟨gx, sx⟩ := x
      simp only at p0 p1
      by_cases he : ((gx, sx) : Int × Int) = (f, t)
      · have HE : Hid (decide ((f, t) ∈ ps) = true) := by show _ = _; rw [← he, EX.out]; exact decide_eq_true (List.getElem_mem _)
        injection he with e1 e2
        have hb1 : (gx == f) = true := beq_iff_eq.2 e1
        have hb2 : (sx == t) = true := beq_iff_eq.2 e2
        clear e1 e2
        go_wp2_with fail
        go_ret
        exact ⟨ret_bool (by rw [HPS.out]; exact HE.out.symm), HB3.out⟩
      · have HE : Hid ((f, t) ∉ ps.take (k + 1)) := by
          show _ ∉ _
          rw [List.take_succ_eq_append_getElem HLT.out, List.mem_append, List.mem_singleton, ← EX.out]
          rintro (h | h)
          · exact HT.out h
          · exact he h.symm
        by_cases h1 : gx = f
        · have h2 : ¬ sx = t := fun e => he (by rw [h1, e])
          have hb1 : (gx == f) = true := beq_iff_eq.2 h1
          have hb2 : (sx == t) = false := beq_eq_false_iff_ne.2 h2
          clear h1 h2 he
          go_wp2_with fail
          go_roundw
          case rel => exact ⟨k + 1, by omega, by go_num, (by first | rfl | trivial), HE.out⟩
          case measure => simp [intOf]; omega
        · have hb1 : (gx == f) = false := beq_eq_false_iff_ne.2 h1
          clear h1 he
          go_wp2_with fail
          go_roundw
          case rel => exact ⟨k + 1, by omega, by go_num, (by first | rfl | trivial), HE.out⟩
          case measure => simp [intOf]; omega
    · have hkI : ¬ (k : Int) < (M : Int) := by omega
      have HE : Hid (decide ((f, t) ∈ ps) = false) := by
        have := HT.out
        rw [List.take_of_length_le (by rw [← HM.out]; omega)] at this
        exact decide_eq_false this
      go_wp2_with fail
      go_ret
      exact ⟨ret_bool (by rw [HPS.out]; exact HE.out.symm), HB3.out⟩
end Go.Proofs.YtfiaoibfejginaaDoor
