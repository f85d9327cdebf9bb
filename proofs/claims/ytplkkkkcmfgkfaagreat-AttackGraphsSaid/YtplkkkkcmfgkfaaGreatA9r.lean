/- slices.DeleteFunc at the chapter's two attacks. -/
import Derived.Test.YtplkkkkcmfgkfaaGreatA9u
namespace Go.Proofs.YtplkkkkcmfgkfaaGreat
set_option linter.unusedVariables false
set_option linter.unusedSimpArgs false
open Go Go.RowKit Go.Sort

theorem idxA_two (m1 m2 m3 pb pc g c gA cA : Nat) (w : World) (hc : Cap w m1 m2 m3 pb pc g c) (hA : RW w gA attB) :
    Calls Tryz.prog 68 #[.slice (some ⟨gA, 0, none⟩) 2 cA, .func (Fn.func 33) #[] #[.pointer (some ⟨m1, 0, none⟩), .pointer (some ⟨m2, 0, none⟩), .pointer (some ⟨m3, 0, none⟩)]] w fun e w' => e = .returned (.int .i64 0) ∧ Below w.heap.size w w' := by
  have c0 := (hA.2 0 _ rfl).1
  have c1 := (hA.2 1 _ rfl).1
  have c2 := (hA.2 2 _ rfl).1
  have c3 := (hA.2 3 _ rfl).1
  have lg := hA.1
  have HC := hidIt hc
  clear hc hA
  go_enter Tryz.func68, Tryz.ntmps68
  go_wp2_with fail
  refine wp_loop_rounds 1 ?_
  rw [rounds_succ]
  go_wp2_with fail
  refine (fails_leaf 0 (by decide) m1 m2 m3 pb pc g c _ HC.out).mono ?_
  rintro e w1 ⟨rfl, hb⟩
  have HB := hidIt hb
  rw [show decide ((0 : Int) = 0) = true from rfl]
  go_wp2_with fail
  go_ret
  exact ⟨rfl, HB.out⟩

theorem zeroA9 (w : World) : (zeroValue 28).run Tryz.prog w = .ok (.agg #[.int .i64 0, .int .i64 0, .int .i64 0, .int .i64 0]) w := by kernel_rfl
theorem clear_att (w : World) (ty : TypeId) (b o c : Nat) (hc : ∀ j, j < 4 → (w.cell? ⟨b, o + j, none⟩).isSome = true) (hf : ∀ j, j < 4 → w.frozen? ⟨b, o + j, none⟩ = false) :
    (Builtin.clear_ #[22] ty #[.slice (some ⟨b, o, none⟩) 1 c]).run Tryz.prog w = .ok (.tuple #[]) (w.setCells b o [.int .i64 0, .int .i64 0, .int .i64 0, .int .i64 0]) := by
  have hzc : (Builtin.zeroCells (Value.agg #[.int .i64 0, .int .i64 0, .int .i64 0, .int .i64 0]).cells 1).toList = [.int .i64 0, .int .i64 0, .int .i64 0, .int .i64 0] := by kernel_rfl
  have hst := run_storeCells_cells (P := Tryz.prog) b o [.int .i64 0, .int .i64 0, .int .i64 0, .int .i64 0] 0 w (by simpa using hc) (by simpa using hf) (one_of (by rfl))
  simp only [Nat.add_zero] at hst
  simp [Builtin.clear_, run_underlying Tryz.underlying22, zeroA9, hzc, hst]
theorem size_setCells9 (b : Nat) : ∀ (vs : List Value) (o : Nat) (w : World), (w.setCells b o vs).heap.size = w.heap.size
  | [], _, _ => rfl
  | _ :: r, o, _ => (size_setCells9 b r (o + 1) _).trans (size_setCell9 _ _ _)
theorem lg_end {w : World} {b : Nat} (h : b < w.heap.size) (xs ys : List Value) : b < ((w.setCells b 0 xs).setCells b 4 ys).heap.size := by rw [size_setCells9, size_setCells9]; exact h
theorem frozen_setCells (b : Nat) (p : Addr) : ∀ (vs : List Value) (o : Nat) (w : World), (w.setCells b o vs).frozen? p = w.frozen? p
  | [], _, _ => rfl
  | v :: r, o, w => by
    show ((w.setCell ⟨b, o, none⟩ v).setCells b (o + 1) r).frozen? p = _
    rw [frozen_setCells b p r]
    simp [go_sem]
theorem below_setCells (b : Nat) {n : Nat} {w : World} (hb : n ≤ b) : ∀ (vs : List Value) (o : Nat) (a : World), Below n w a → Below n w (a.setCells b o vs)
  | [], _, _, h => h
  | _ :: r, o, _, h => below_setCells b hb r (o + 1) _ (below_set5 h hb)

set_option maxRecDepth 100000 in
set_option maxHeartbeats 1000000 in
theorem delA_two (B m1 m2 m3 pb pc g c gA cA : Nat) (w : World) (hc : Cap w m1 m2 m3 pb pc g c) (hA : RW w gA attB) (hB : B ≤ gA) (hBw : B ≤ w.heap.size) (hcA : 2 ≤ cA) :
    Calls Tryz.prog 35 #[.slice (some ⟨gA, 0, none⟩) 2 cA, .func (Fn.func 33) #[] #[.pointer (some ⟨m1, 0, none⟩), .pointer (some ⟨m2, 0, none⟩), .pointer (some ⟨m3, 0, none⟩)]] w fun e w' => e = .returned (.slice (some ⟨gA, 0, none⟩) 1 cA) ∧ CR w' gA [.int .i64 1, .int .i64 0, .int .i64 0, .int .i64 1] ∧ Below B w w' := by
  have HC0 := hidIt hc
  have HA0 := hidIt hA
  clear hc hA
  go_enter Tryz.func35, Tryz.ntmps35
  go_wp2_with fail
  refine (idxA_two m1 m2 m3 pb pc g c gA cA _ HC0.out HA0.out).mono ?_
  rintro e w1 ⟨rfl, hb⟩
  have HC1 := hidIt (HC0.out.go hb)
  have HA1 := hidIt (HA0.out.go hb)
  have HB1 := hidIt (Below.mono hb hBw)
  have HL1 : Hid (B ≤ w1.heap.size) := Nat.le_trans hBw hb.size
  clear hb HC0 HA0
  have c4 := (HA1.out.2 4 _ rfl).1
  have c5 := (HA1.out.2 5 _ rfl).1
  have c6 := (HA1.out.2 6 _ rfl).1
  have c7 := (HA1.out.2 7 _ rfl).1
  have lg := HA1.out.1
  have hgr := bgrow w1 (.cells #[.int .i64 1, .int .i64 0, .int .i64 0, .int .i64 1] 28)
  have HC2 := hidIt (HC1.out.go hgr)
  have HA2 := hidIt (HA1.out.go hgr)
  have HX2 := hidIt (heap_alloc_new w1 (.cells #[.int .i64 1, .int .i64 0, .int .i64 0, .int .i64 1] 28))
  have HB2 := hidIt (HB1.out.trans (Below.mono hgr HL1.out))
  have HL2 : Hid (B ≤ (w1.alloc (.cells #[.int .i64 1, .int .i64 0, .int .i64 0, .int .i64 1] 28)).heap.size) := Nat.le_trans HL1.out hgr.size
  have HNE : Hid (gA ≠ w1.heap.size) := Nat.ne_of_lt lg
  clear hgr
  go_wp2_with fail
  refine wp_loop_rounds 2 ?_
  rw [rounds_succ]
  go_upto_region 8 with (fail)
  generalize (w1.alloc (.cells #[.int .i64 1, .int .i64 0, .int .i64 0, .int .i64 1] 28)) = w2 at *
  generalize w1.heap.size = PX at *
  clear c4 c5 c6 c7 lg HB1 HL1 HC1 HA1
  obtain ⟨x0, x1, x2, x3⟩ := four0 HX2.out
  have lx := lt_of_block HX2.out
  go_wp2_with fail
  refine (fails_leaf 1 (by decide) m1 m2 m3 pb pc g c _ HC2.out).mono ?_
  rintro e w3 ⟨rfl, hb⟩
  rw [show decide ((1 : Int) = 0) = false from rfl]
  have HA3 := hidIt (HA2.out.go hb)
  have HX3 := hidIt (blk_kept2 HX2.out hb)
  have HB3 := hidIt (HB2.out.trans (Below.mono hb HL2.out))
  clear hb x0 x1 x2 x3 lx
  obtain ⟨x0, x1, x2, x3⟩ := four0 HX3.out
  have lx := lt_of_block HX3.out
  have c0 := (HA3.out.2 0 _ rfl).1
  have c1 := (HA3.out.2 1 _ rfl).1
  have c2 := (HA3.out.2 2 _ rfl).1
  have c3 := (HA3.out.2 3 _ rfl).1
  have c4 := (HA3.out.2 4 _ rfl).1
  have c5 := (HA3.out.2 5 _ rfl).1
  have c6 := (HA3.out.2 6 _ rfl).1
  have c7 := (HA3.out.2 7 _ rfl).1
  have f0 := (HA3.out.2 0 _ rfl).2
  have f1 := (HA3.out.2 1 _ rfl).2
  have f2 := (HA3.out.2 2 _ rfl).2
  have f3 := (HA3.out.2 3 _ rfl).2
  have f4 := (HA3.out.2 4 _ rfl).2
  have f5 := (HA3.out.2 5 _ rfl).2
  have f6 := (HA3.out.2 6 _ rfl).2
  have f7 := (HA3.out.2 7 _ rfl).2
  have lg := HA3.out.1
  have hw4 : (((w3.setCell ⟨gA, 0, none⟩ (.int .i64 1)).setCell ⟨gA, 1, none⟩ (.int .i64 0)).setCell ⟨gA, 2, none⟩ (.int .i64 0)).setCell ⟨gA, 3, none⟩ (.int .i64 1) = w3.setCells gA 0 [.int .i64 1, .int .i64 0, .int .i64 0, .int .i64 1] := rfl
  have hin : ∀ j, j < 4 → (w3.cell? ⟨gA, 0 + j, none⟩).isSome = true := fun j hj => by
    rcases j with _ | _ | _ | _ | j
    · rw [show w3.cell? ⟨gA, 0 + 0, none⟩ = _ from c0]; rfl
    · rw [show w3.cell? ⟨gA, 0 + (0 + 1), none⟩ = _ from c1]; rfl
    · rw [show w3.cell? ⟨gA, 0 + (0 + 1 + 1), none⟩ = _ from c2]; rfl
    · rw [show w3.cell? ⟨gA, 0 + (0 + 1 + 1 + 1), none⟩ = _ from c3]; rfl
    · omega
  have hcl := clear_att (w3.setCells gA 0 [.int .i64 1, .int .i64 0, .int .i64 0, .int .i64 1]) 0 gA 4 (cA - 1)
    (fun j hj => by
      rw [World.cell?_setCells_out gA _ 0 w3 ⟨gA, 4 + j, none⟩ (fun _ _ => .inr (by show 0 + 4 ≤ 4 + j; omega))]
      rcases j with _ | _ | _ | _ | j
      · rw [show w3.cell? ⟨gA, 4 + 0, none⟩ = _ from c4]; rfl
      · rw [show w3.cell? ⟨gA, 4 + (0 + 1), none⟩ = _ from c5]; rfl
      · rw [show w3.cell? ⟨gA, 4 + (0 + 1 + 1), none⟩ = _ from c6]; rfl
      · rw [show w3.cell? ⟨gA, 4 + (0 + 1 + 1 + 1), none⟩ = _ from c7]; rfl
      · omega)
    (fun j hj => by
      rw [frozen_setCells]
      rcases j with _ | _ | _ | _ | j
      · exact f4
      · exact f5
      · exact f6
      · exact f7
      · omega)
  have HEND : Hid (CR ((w3.setCells gA 0 [.int .i64 1, .int .i64 0, .int .i64 0, .int .i64 1]).setCells gA 4 [.int .i64 0, .int .i64 0, .int .i64 0, .int .i64 0]) gA [.int .i64 1, .int .i64 0, .int .i64 0, .int .i64 1]) := by
    refine ⟨?_, fun j u hj => ?_⟩
    · exact lg_end lg _ _
    · have hj4 : j < 4 := by
        rcases Nat.lt_or_ge j 4 with h1 | h1
        · exact h1
        · rw [List.getElem?_eq_none (by simpa using h1)] at hj; cases hj
      rw [World.cell?_setCells_out gA _ 4 _ ⟨gA, j, none⟩ (fun _ _ => .inl hj4)]
      have := World.cell?_setCells_in gA [.int .i64 1, .int .i64 0, .int .i64 0, .int .i64 1] 0 w3 (by simpa using hin) j (by simpa using hj4)
      rw [Nat.zero_add] at this
      rw [this, ← hj, List.getElem?_eq_getElem]
  have HBE := hidIt (below_setCells gA hB [.int .i64 0, .int .i64 0, .int .i64 0, .int .i64 0] 4 _ (below_setCells gA hB [.int .i64 1, .int .i64 0, .int .i64 0, .int .i64 1] 0 _ HB3.out))
  rw [← hw4] at hcl
  have HW4 := hidIt hw4
  clear hw4 hin
  go_wp2_with fail
  rw [rounds_succ]
  go_wp2_with fail
  go_ret
  exact ⟨rfl, HEND.out, HBE.out⟩
end Go.Proofs.YtplkkkkcmfgkfaaGreat
