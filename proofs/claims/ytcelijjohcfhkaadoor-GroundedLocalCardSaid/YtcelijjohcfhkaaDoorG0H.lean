/- A pair in a list; Has, Attackers, Attacked: the program's and the reference's. -/
import Derived.Test.YtcelijjohcfhkaaDoorG0V
namespace Go.Proofs.YtcelijjohcfhkaaDoor
set_option linter.unusedVariables false
set_option linter.unusedSimpArgs false
open Go Go.RowKit Go.Sort

theorem below_of_alloc {w w1 : World} {o : Obj} (hb : Below (w.alloc o).heap.size (w.alloc o) w1) : Below w.heap.size w w1 := ((Below.refl _ _).alloc (Nat.le_refl _) o).trans (hb.mono (by simp))
theorem take_snoc (xs : List (Int × Int)) (k : Nat) (h : k < xs.length) : xs.take (k + 1) = xs.take k ++ [xs[k]!] := by
  rw [getElem_bang h]; exact List.take_succ_eq_append_getElem h
theorem mem_take_succ {xs : List (Int × Int)} {x : (Int × Int)} {k : Nat} (hk : k < xs.length) : x ∈ xs.take (k + 1) ↔ x ∈ xs.take k ∨ x = xs[k]! := by
  rw [take_snoc xs k hk, List.mem_append, List.mem_singleton]

theorem not_mem_succ {xs : List (Int × Int)} {x : (Int × Int)} {k : Nat} (hk : k < xs.length) (h1 : x ∉ xs.take k) (h2 : x ≠ xs[k]!) : x ∉ xs.take (k + 1) := fun hm =>
  (mem_take_succ hk).1 hm |>.elim h1 h2

set_option maxRecDepth 100000 in
set_option maxHeartbeats 1000000 in
theorem index_some (b off cap : Nat) (xs : List (Int × Int)) (g s : Int) (w : World) (hn : xs.length ≤ 1000000) (hb : b < w.heap.size)
    (h : ∀ i, i < xs.length → w.cell? ⟨b, off + i * 2, none⟩ = some (.int .i64 (xs[i]!).1) ∧ w.cell? ⟨b, off + i * 2 + 1, none⟩ = some (.int .i64 (xs[i]!).2)) :
    Calls Tryd.prog 62 #[.slice (some ⟨b, off, none⟩) xs.length cap, .agg #[.int .i64 g, .int .i64 s]] w fun e w' => ∃ i : Int, e = .returned (.int .i64 i) ∧ (0 ≤ i ↔ ((g, s) : Int × Int) ∈ xs) ∧ Below w.heap.size w w' := by
  have HH := hidIt h
  clear h
  go_enter Tryd.func62, Tryd.ntmps62
  go_wp2_with fail
  go_loopw [8] (fun i wr => ∃ k : Nat, k ≤ xs.length ∧ i = .int .i64 k ∧ Hid (((g, s) : Int × Int) ∉ xs.take k) ∧ Hid (wr.heap[w.heap.size]? = some (.cells #[.int .i64 g, .int .i64 s] 43 (0, 0))) ∧ Hid (Below w.heap.size w wr)) (fun i _ => xs.length - (intOf i).toNat)
  case atStart => exact ⟨0, Nat.zero_le _, rfl, (show ((g, s) : Int × Int) ∉ xs.take 0 from by simp), heap_alloc_new w _, (Below.refl _ _).alloc (Nat.le_refl _) _⟩
  case round =>
    obtain ⟨k, hk, rfl, hnot, hbox, hbel⟩ := hrel
    by_cases hlt : k < xs.length
    · obtain ⟨c0, c1⟩ := HH.out k hlt
      rw [← hbel.out.cell (p := ⟨b, off + k * 2, none⟩) hb] at c0
      rw [← hbel.out.cell (p := ⟨b, off + k * 2 + 1, none⟩) hb] at c1
      have b0 := cell_two0 hbox.out
      have b1 := cell_two1 hbox.out
      obtain ⟨x, hx⟩ : ∃ x, x = xs[k]! := ⟨_, rfl⟩
      rw [← hx] at c0 c1
      have HX := hidIt hx
      clear hx
      obtain ⟨gx, sx⟩ := x
      simp only at c0 c1
      have hgd := fun (op : BinOp) (a b : Operand) (w : World) => gdL op a b g gx s sx w
      by_cases he : ((g, s) : Int × Int) = (gx, sx)
      · have hq : ∀ w, (Op.equalIn 10000 43 (.agg #[.int .i64 g, .int .i64 s]) (.agg #[.int .i64 gx, .int .i64 sx])).run Tryd.prog w = .ok true w := fun w => by rw [eqFieldsL]; simp only [he, decide_true]
        have HE := hidIt he
        clear he
        go_wp2_with fail
        go_quiet (fail)
        go_wp2
        go_ret
        refine ⟨_, rfl, ⟨fun _ => ?_, fun _ => by omega⟩, ?_⟩
        · rw [HE.out, HX.out, getElem!_pos xs k hlt]; exact List.getElem_mem hlt
        · exact ⟨hbel.out.os, hbel.out.tape, hbel.out.output, hbel.out.size, hbel.out.block⟩
      · have hq : ∀ w, (Op.equalIn 10000 43 (.agg #[.int .i64 g, .int .i64 s]) (.agg #[.int .i64 gx, .int .i64 sx])).run Tryd.prog w = .ok false w := fun w => by rw [eqFieldsL]; simp only [he, decide_false]
        have HE := hidIt he
        clear he
        go_wp2_with fail
        go_quiet (fail)
        go_wp2
        go_roundw
        case rel => exact ⟨k + 1, by omega, by go_num, not_mem_succ hlt hnot.out (fun e => HE.out (e.trans HX.out.symm)), hbox, ⟨hbel.out.os, hbel.out.tape, hbel.out.output, hbel.out.size, hbel.out.block⟩⟩
        case measure => simp [intOf]; omega
    · obtain rfl : k = xs.length := by omega
      go_wp2
      go_ret
      refine ⟨_, rfl, ⟨fun h => by omega, fun h => absurd h ?_⟩, hbel.out⟩
      have := hnot.out
      rwa [List.take_length] at this

theorem index_nil (g s : Int) (w : World) : Calls Tryd.prog 62 #[.slice none 0 0, .agg #[.int .i64 g, .int .i64 s]] w fun e w' => ∃ i : Int, e = .returned (.int .i64 i) ∧ (0 ≤ i ↔ ((g, s) : Int × Int) ∈ ([] : List (Int × Int))) ∧ Below w.heap.size w w' := by
  go_enter Tryd.func62, Tryd.ntmps62
  go_wp2_with fail
  refine wp_loop_rounds 1 ?_
  rw [rounds_succ]
  go_wp2
  go_ret
  exact ⟨_, rfl, ⟨fun h => by omega, fun h => by cases h⟩, (Below.refl _ _).alloc (Nat.le_refl _) _⟩

theorem index_any (v : Value) (xs : List (Int × Int)) (g s : Int) (w : World) (h : PairsAt w v xs) (hn : xs.length ≤ 1000000) :
    Calls Tryd.prog 62 #[v, .agg #[.int .i64 g, .int .i64 s]] w fun e w' => ∃ i : Int, e = .returned (.int .i64 i) ∧ (0 ≤ i ↔ ((g, s) : Int × Int) ∈ xs) ∧ Below w.heap.size w w' := by
  rcases h with ⟨rfl, rfl⟩ | ⟨b, off, cap, rfl, h2, h3, h4, h5⟩
  · exact index_nil g s w
  · exact index_some b off cap xs g s w hn h4 h5

set_option maxHeartbeats 400000 in
theorem contains_any (v : Value) (xs : List (Int × Int)) (g s : Int) (w : World) (h : PairsAt w v xs) (hn : xs.length ≤ 1000000) :
    Calls Tryd.prog 53 #[v, .agg #[.int .i64 g, .int .i64 s]] w fun e w' => e = .returned (.bool (decide (((g, s) : Int × Int) ∈ xs))) ∧ Below w.heap.size w w' := by
  have HI := hidIt (index_any v xs g s _ (h.grow (World.grownBy_alloc w (.cells #[.int .i64 g, .int .i64 s] 43) none)) hn)
  clear h
  go_enter Tryd.func53, Tryd.ntmps53
  go_wp2_with fail
  refine HI.out.mono ?_
  rintro e w1 ⟨i, rfl, hi, hb⟩
  have HB := hidIt (below_of_alloc hb)
  have HIF := hidIt hi
  clear hb hi HI
  go_wp2
  go_ret
  refine ⟨ret_bool ?_, HB.out⟩
  rw [Bool.eq_iff_iff]
  simp only [decide_eq_true_eq]
  exact HIF.out


set_option maxRecDepth 100000 in
set_option maxHeartbeats 1000000 in
theorem gHas_any (n : Int) (v : Value) (xs : List (Int × Int)) (f t : Int) (w : World) (h : PairsAt w v xs) (hl : xs.length ≤ 1000000) :
    Calls Tryd.prog 38 #[.agg #[.int .i64 n, v], .int .i64 f, .int .i64 t] w fun e w' => e = .returned (.bool (decide ((f, t) ∈ vL n xs))) ∧ Below w.heap.size w w' := by
  have hB := bgrow w (.cells #[.int .i64 n, v] 24)
  have h1 := h.below hB
  have HV := hidIt (h.valid n)
  obtain ⟨a, c, rfl, -⟩ := h.form
  have HX := hidIt (heap_alloc_new w (.cells #[.int .i64 n, .slice a xs.length c] 24))
  have HB := hidIt hB
  have H1 := hidIt h1
  have HL := hidIt hl
  clear h h1 hB hl
  go_enter Tryd.func38, Tryd.ntmps38
  go_upto_region 1 with (fail)
  generalize (w.alloc (.cells #[.int .i64 n, .slice a xs.length c] 24)) = w1 at *
  obtain ⟨x0, x1⟩ := And.intro (cell_two0 HX.out) (cell_two1 HX.out)
  have lx := lt_of_block HX.out
  go_wp2_with fail
  refine (gvalid_any n _ xs _ H1.out HL.out).mono ?_
  rintro e w2 ⟨rfl, hb⟩
  have HB2 := hidIt (HB.out.trans (Below.mono hb HB.out.size))
  have HLN : Hid ((vL n xs).length ≤ 1000000) := Nat.le_trans (vL_len n xs) HL.out
  have HP := hidIt (HV.out.below HB2.out)
  clear hb x0 x1 lx HX H1 HL HV
  generalize hps : vL n xs = ps at *
  have HPS := hidIt hps
  clear hps
  generalize vN n xs = m at *
  generalize vV n xs _ = v' at *
  obtain ⟨a', c', rfl, -⟩ := HP.out.form
  have hfd := fun w => fieldG1 m a' ps.length c' w
  go_wp2_with fail
  refine (contains_any _ ps f t _ HP.out HLN.out).mono ?_
  rintro e w3 ⟨rfl, hb⟩
  have HB3 := hidIt (HB2.out.trans (Below.mono hb HB2.out.size))
  clear hb
  go_wp2_with fail
  go_ret
  rw [HPS.out]
  exact ⟨rfl, HB3.out⟩

end Go.Proofs.YtcelijjohcfhkaaDoor
