/- The sets of the nodes that each node attacks. -/
import Derived.Test.YtcelijjohcfhkaaDoorG0J
import Derived.Test.YtcelijjohcfhkaaDoorG0I
import Derived.BigRegion
namespace Go.Proofs.YtcelijjohcfhkaaDoor
set_option linter.unusedVariables false
set_option linter.unusedSimpArgs false
open Go Go.RowKit Go.Sort

/-- A valid graph. -/
structure GOk (n : Int) (ps : List (Int × Int)) : Prop where
  n0 : 0 ≤ n
  n40 : n ≤ 40
  ix : ∀ p ∈ ps, (0 ≤ p.1 ∧ p.1 < n) ∧ (0 ≤ p.2 ∧ p.2 < n)
  up : ps.Pairwise fun a b => geP a b = false

def geO (p : Option (Int × Int)) (x : Int × Int) : Bool := match p with | none => false | some y => geP y x
theorem valFrom_cons (n : Int) (p : Option (Int × Int)) (x : Int × Int) (r : List (Int × Int)) : valFrom n p (x :: r) = if (ixB x.1 n && ixB x.2 n) = false then 1 else if geO p x = true then 8 else valFrom n (some x) r := by
  cases p <;> rfl
theorem valFrom_ok (n : Int) : ∀ (xs : List (Int × Int)) (p : Option (Int × Int)), valFrom n p xs = 0 → (∀ x ∈ xs, (0 ≤ x.1 ∧ x.1 < n) ∧ (0 ≤ x.2 ∧ x.2 < n)) ∧ xs.Pairwise (fun a b => geP a b = false) ∧ ∀ y, p = some y → ∀ x ∈ xs, geP y x = false
  | [], p, _ => ⟨fun x h => (by cases h), List.Pairwise.nil, fun y _ x h => (by cases h)⟩
  | x :: r, p, h => by
    rw [valFrom_cons] at h
    by_cases h1 : (ixB x.1 n && ixB x.2 n) = false
    · rw [if_pos h1] at h; cases h
    rw [if_neg h1] at h
    by_cases h2 : geO p x = true
    · rw [if_pos h2] at h; cases h
    rw [if_neg h2] at h
    obtain ⟨i1, i2, i3⟩ := valFrom_ok n r (some x) h
    have h1' : ixB x.1 n = true ∧ ixB x.2 n = true := by simpa using h1
    refine ⟨fun y hy => ?_, List.pairwise_cons.2 ⟨fun y hy => i3 x rfl y hy, i2⟩, fun y e z hz => ?_⟩
    · rcases List.mem_cons.1 hy with rfl | hy
      · exact ⟨ixB_true h1'.1, ixB_true h1'.2⟩
      · exact i1 y hy
    · subst e
      have h3 : geP y x = false := by simpa [geO] using h2
      rcases List.mem_cons.1 hz with rfl | hz
      · exact h3
      · have h4 := i3 x rfl z hz
        unfold geP at *
        simp only [decide_eq_false_iff_not] at *
        omega
theorem valE_ok {n : Int} {xs : List (Int × Int)} (h : valE n xs = 0) : GOk n xs := by
  unfold valE at h
  by_cases hn : n < 0 ∨ 40 < n
  · rw [if_pos hn] at h; cases h
  rw [if_neg hn] at h
  obtain ⟨h1, h2, -⟩ := valFrom_ok n xs none h
  exact ⟨by omega, by omega, h1, h2⟩
theorem v_ok (n : Int) (xs : List (Int × Int)) : GOk (vN n xs) (vL n xs) := by
  unfold vN vL
  by_cases h : valE n xs = 0
  · rw [if_pos h, if_pos h]; exact valE_ok h
  · rw [if_neg h, if_neg h]; exact ⟨by decide, by decide, fun x h => (by cases h), List.Pairwise.nil⟩

/-- The nodes that i attacks, as bits. -/
def attB (ps : List (Int × Int)) (i : Nat) : BitVec 64 := ps.foldl (fun s p => if p.1 = (i : Int) then s ||| oneB p.2.toNat else s) 0#64
theorem attB_step {ps : List (Int × Int)} {k : Nat} (h : k < ps.length) (i : Nat) : attB (ps.take (k + 1)) i = if ps[k].1 = (i : Int) then attB (ps.take k) i ||| oneB ps[k].2.toNat else attB (ps.take k) i := by
  unfold attB
  rw [List.take_succ_eq_append_getElem h, List.foldl_append]
  rfl
theorem attB_bit (ps : List (Int × Int)) (i j : Nat) (h : ∀ p ∈ ps, 0 ≤ p.2 ∧ p.2 < 64) : (attB ps i).getLsbD j = decide (((i : Int), (j : Int)) ∈ ps) := by
  have gen : ∀ (ps : List (Int × Int)) (s : BitVec 64), (∀ p ∈ ps, 0 ≤ p.2 ∧ p.2 < 64) → (ps.foldl (fun s p => if p.1 = (i : Int) then s ||| oneB p.2.toNat else s) s).getLsbD j = (s.getLsbD j || decide (((i : Int), (j : Int)) ∈ ps)) := by
    intro ps
    induction ps with
    | nil => intro s _; simp
    | cons x r ih =>
      intro s hp
      rw [List.foldl_cons, ih _ (fun p hm => hp p (List.mem_cons_of_mem _ hm))]
      obtain ⟨h0, h1⟩ := hp x (List.mem_cons_self ..)
      obtain ⟨a, b⟩ := x
      simp only at h0 h1
      by_cases e : a = (i : Int)
      · rw [if_pos e, BitVec.getLsbD_or, BitVec.getLsbD_twoPow]
        have e2 : (decide (b.toNat < 64) && decide (b.toNat = j)) = decide (((i : Int), (j : Int)) = (a, b)) := by
          rw [Bool.eq_iff_iff]
          simp only [Bool.and_eq_true, decide_eq_true_eq, Prod.mk.injEq]
          omega
        rw [e2]
        cases s.getLsbD j <;> simp [List.mem_cons]
      · rw [if_neg e]
        have : ¬ (((i : Int), (j : Int)) = (a, b)) := fun h => e (by injection h with h1 h2; exact h1.symm)
        simp [List.mem_cons, this]
  have := gen ps 0#64 h
  rw [attB, this]
  simp

/-- A row of sets. -/
def cellsU (n : Nat) (f : Nat → BitVec 64) : Array Value := ((List.range n).map fun i => bv (f i)).toArray
theorem cellsU_size (n : Nat) (f : Nat → BitVec 64) : (cellsU n f).size = n := by simp [cellsU]
theorem cellsU_get {n : Nat} {f : Nat → BitVec 64} {i : Nat} (h : i < n) : (cellsU n f)[i]? = some (bv (f i)) := by simp [cellsU, h]
def updB (f : Nat → BitVec 64) (i : Nat) (S : BitVec 64) : Nat → BitVec 64 := fun j => if j = i then S else f j
theorem cellsU_set (n : Nat) (f : Nat → BitVec 64) (i : Nat) (S : BitVec 64) : (cellsU n f).setIfInBounds i (bv S) = cellsU n (updB f i S) := by
  apply Array.ext_getElem?
  intro j
  rw [Array.getElem?_setIfInBounds, cellsU_size]
  by_cases hj : j < n
  · rw [cellsU_get hj, cellsU_get hj]
    unfold updB
    by_cases e : i = j
    · subst e; simp [hj]
    · rw [if_neg e, if_neg (Ne.symm e)]
  · have h1 : (cellsU n f)[j]? = none := Array.getElem?_eq_none (by rw [cellsU_size]; omega)
    have h2 : (cellsU n (updB f i S))[j]? = none := Array.getElem?_eq_none (by rw [cellsU_size]; omega)
    rw [h1, h2]
    by_cases e : i = j
    · subst e; simp [hj]
    · rw [if_neg e]
/-- A row of n sets in a block. -/
def SetsAt (w : World) (b n : Nat) (f : Nat → BitVec 64) : Prop := w.heap[b]? = some (.cells (cellsU n f) 54 (0, 0))
theorem SetsAt.cell {w : World} {b n : Nat} {f : Nat → BitVec 64} (h : SetsAt w b n f) {i : Nat} (hi : i < n) : w.cell? ⟨b, i, none⟩ = some (bv (f i)) := by
  unfold SetsAt at h
  simp [World.cell?, h, cellsU_get hi]
theorem SetsAt.set {w : World} {b n : Nat} {f : Nat → BitVec 64} (h : SetsAt w b n f) (i : Nat) (S : BitVec 64) : SetsAt (w.setCell ⟨b, i, none⟩ (bv S)) b n (updB f i S) := by
  unfold SetsAt
  rw [set_cells h, cellsU_set]
theorem SetsAt.go {w w' : World} {b n : Nat} {f : Nat → BitVec 64} (h : SetsAt w b n f) (hb : Below w.heap.size w w') : SetsAt w' b n f := blk_kept2 h hb

theorem infoU9 : (Tryd.prog.info? 54).map (fun i => (i.zero, i.size, i.bytes)) = some (some (.int .u64 0), 1, 8) := by kernel_rfl
theorem made_zero (n : Nat) : madeCells #[.int .u64 0] n = cellsU n (fun _ => 0#64) := by
  apply Array.ext_getElem?
  intro i
  by_cases h : i < n
  · rw [cellsU_get h]
    unfold madeCells
    simp [h]
    rw [show i % 1 = 0 from Nat.mod_one i]
    rfl
  · have h1 : (cellsU n (fun _ => 0#64))[i]? = none := Array.getElem?_eq_none (by rw [cellsU_size]; omega)
    rw [h1]
    unfold madeCells
    simp
    omega
theorem make_sets (n : Nat) (hn : n ≤ 1000) (w : World) : (Instr.makeSlice 49 (.int .i64 (n : Int)) (.int .i64 (n : Int))).run Tryd.prog w = .ok (.slice (some ⟨w.heap.size, 0, none⟩) n n) (w.alloc (.cells (cellsU n (fun _ => 0#64)) 54)) := by
  obtain ⟨i0, hi, hz0, hz1, hz2⟩ := info_parts infoU9
  have hr := run_make (P := Tryd.prog) w 49 54 i0 _ Tryd.underlying49 hi hz0 .i64 .i64 (n : Int) (n : Int) (by omega) (by omega) (by rw [hz2]; omega) (by omega)
  rw [hz1] at hr
  simp only [Int.toNat_natCast, Nat.mul_one] at hr
  rw [← made_zero]
  exact hr

set_option maxRecDepth 100000 in
set_option maxHeartbeats 2000000 in
theorem attackedSets_any (N : Nat) (v : Value) (ps : List (Int × Int)) (w : World) (h : PairsAt w v ps) (hok : GOk (N : Int) ps) (hl : ps.length ≤ 100000) :
    Calls Tryd.prog 25 #[.agg #[.int .i64 (N : Int), v]] w fun e w' => ∃ b, e = .returned (.slice (some ⟨b, 0, none⟩) N N) ∧ w.heap.size ≤ b ∧ SetsAt w' b N (attB ps) ∧ Below w.heap.size w w' := by
  have hB := bgrow w (.cells #[.int .i64 (N : Int), v] 24)
  obtain ⟨a, c, rfl, hpc⟩ := h.pc
  have HPC := hidIt hpc
  have HX := hidIt (heap_alloc_new w (.cells #[.int .i64 (N : Int), .slice a ps.length c] 24))
  have HB := hidIt hB
  have HOK := hidIt hok
  have hN : N ≤ 40 := by have := hok.n40; omega
  have hmk := make_sets N (by omega)
  clear h hpc hB hok
  go_enter Tryd.func25, Tryd.ntmps25
  go_upto_region 1 with (fail)
  generalize hw1 : (w.alloc (.cells #[.int .i64 (N : Int), .slice a ps.length c] 24)) = w1 at *
  have hsz1 : w1.heap.size = w.heap.size + 1 := by rw [← hw1]; simp
  clear hw1
  obtain ⟨x0, x1⟩ := And.intro (cell_two0 HX.out) (cell_two1 HX.out)
  have lx := lt_of_block HX.out
  have hb2 := bgrow w1 (.cells (cellsU N (fun _ => 0#64)) 54)
  have HX2 := hidIt (blk_kept2 HX.out hb2)
  have HS2 : Hid (SetsAt (w1.alloc (.cells (cellsU N (fun _ => 0#64)) 54)) w1.heap.size N (attB (ps.take 0))) := heap_alloc_new w1 _
  have HB2 := hidIt (HB.out.trans (Below.mono hb2 HB.out.size))
  clear hb2
  go_upto_region 2 with (fail)
  clear hmk x0 x1 lx
  generalize (w1.alloc (.cells (cellsU N (fun _ => 0#64)) 54)) = w2 at *
  rw [hsz1] at HS2
  clear hsz1 HX HB
  obtain ⟨P, hP⟩ : ∃ P, P = w.heap.size := ⟨_, rfl⟩
  have HP := hidIt hP
  rw [← hP] at HX2 HS2 ⊢
  clear hP
  obtain ⟨x0, x1⟩ := And.intro (cell_two0 HX2.out) (cell_two1 HX2.out)
  have lx := lt_of_block HX2.out
  obtain ⟨M, hM⟩ : ∃ M, M = ps.length := ⟨_, rfl⟩
  have HM := hidIt hM
  rw [← hM] at hl HX2 x1 ⊢
  clear hM
  go_wp2_with fail
  go_loopw [5, 12] (fun _ i wr => ∃ k : Nat, k ≤ M ∧ i = .int .i64 k ∧ Hid (SetsAt wr (P + 1) N (attB (ps.take k))) ∧ Hid (wr.heap[P]? = some (.cells #[.int .i64 (N : Int), .slice a M c] 24 (0, 0))) ∧ Hid (Below w.heap.size w wr)) (fun _ i _ => M - (intOf i).toNat)
  case atStart => exact ⟨0, Nat.zero_le _, (by first | rfl | trivial), HS2.out, HX2.out, HB2.out⟩
  case round =>
    clear HS2 HX2 HB2 x0 x1 lx
    obtain ⟨k, hk, rfl, HS, HX, HB⟩ := hrel
    have hkI0 : (0 : Int) ≤ (k : Int) := by omega
    obtain ⟨x0, x1⟩ := And.intro (cell_two0 HX.out) (cell_two1 HX.out)
    have lx := lt_of_block HX.out
    by_cases hlt : k < M
    · have hkI : (k : Int) < (M : Int) := by omega
      have HLT : Hid (k < ps.length) := by show k < _; rw [← HM.out]; exact hlt
      obtain ⟨b, off, rfl, lb, hcs⟩ := (HPC.out.go HB.out).at_ HLT.out
      obtain ⟨p0, p1⟩ := hcs k HLT.out
      have hmem := HOK.out.ix (ps[k]'HLT.out) (List.getElem_mem _)
      have HST := hidIt (fun i => attB_step HLT.out i)
      obtain ⟨x, hx⟩ : ∃ x, x = ps[k]'HLT.out := ⟨_, rfl⟩
      rw [← hx] at p0 p1 hmem HST
      clear hx hcs
      obtain ⟨gx, sx⟩ := x
      simp only at p0 p1 hmem
      obtain ⟨⟨g0, g1⟩, s0, s1⟩ := hmem
      obtain ⟨f, rfl⟩ : ∃ f : Nat, gx = (f : Int) := ⟨gx.toNat, by omega⟩
      obtain ⟨t, rfl⟩ : ∃ t : Nat, sx = (t : Int) := ⟨sx.toNat, by omega⟩
      have hf : f < N := by omega
      have ht : t < 64 := by omega
      have hg2 := bgrow wr (.cells #[.int .i64 (f : Int), .int .i64 (t : Int)] 43)
      have HQ := hidIt (heap_alloc_new wr (.cells #[.int .i64 (f : Int), .int .i64 (t : Int)] 43))
      have HS3 := hidIt (HS.out.go hg2)
      have HX3 := hidIt (blk_kept2 HX.out hg2)
      have HB3 := hidIt (HB.out.trans (Below.mono hg2 HB.out.size))
      clear hg2 HS HX HB
      go_upto_region 5 with (fail)
      generalize wr.alloc (.cells #[.int .i64 (f : Int), .int .i64 (t : Int)] 43) = w4 at *
      clear p0 p1 lb x0 x1 lx
      generalize wr.heap.size = Q at *
      obtain ⟨y0, y1⟩ := And.intro (cell_two0 HQ.out) (cell_two1 HQ.out)
      have ly := lt_of_block HQ.out
      have c0 := HS3.out.cell hf
      have f0 := free_any HS3.out f
      have lc := lt_of_block HS3.out
      have hP1 : P ≠ P + 1 := by omega
      have HSN : Hid (SetsAt (w4.setCell ⟨P + 1, f, none⟩ (bv (attB (ps.take k) f ||| oneB t))).drew (P + 1) N (attB (ps.take (k + 1)))) := by
        have h := HS3.out.set f (attB (ps.take k) f ||| oneB t)
        have e : updB (attB (ps.take k)) f (attB (ps.take k) f ||| oneB t) = attB (ps.take (k + 1)) := by
          funext i
          rw [HST.out i]
          unfold updB
          by_cases e : i = f
          · subst e; simp
          · have : ¬ (f : Int) = (i : Int) := by omega
            simp [e, this]
        rw [e] at h
        exact h
      have HXN : Hid ((w4.setCell ⟨P + 1, f, none⟩ (bv (attB (ps.take k) f ||| oneB t))).drew.heap[P]? = some (.cells #[.int .i64 (N : Int), .slice (some ⟨b, off, none⟩) M c] 24 (0, 0))) := by
        show _ = _
        rw [show (w4.setCell ⟨P + 1, f, none⟩ (bv (attB (ps.take k) f ||| oneB t))).drew.heap[P]? = w4.heap[P]? from Below.heap_setCell w4 ⟨P + 1, f, none⟩ _ P hP1]
        exact HX3.out
      have HBN : Hid (Below w.heap.size w (w4.setCell ⟨P + 1, f, none⟩ (bv (attB (ps.take k) f ||| oneB t))).drew) := by
        have h := below_set5 (b := P + 1) (i := f) (u := bv (attB (ps.take k) f ||| oneB t)) HB3.out (by have := HP.out; omega)
        exact ⟨h.os, h.tape, h.output, h.size, h.block⟩
      have HOR := hidIt (or_one (attB (ps.take k) f) ht)
      go_big_region
      go_wp2_with fail
      rw [HOR.out]
      go_roundw
      case rel => exact ⟨k + 1, by omega, by go_num, HSN.out, HXN.out, HBN.out⟩
      case measure => simp [intOf]; omega
    · have hkI : ¬ (k : Int) < (M : Int) := by omega
      have HE : Hid (SetsAt wr (P + 1) N (attB ps)) := by
        have := HS.out
        rwa [List.take_of_length_le (by rw [← HM.out]; omega)] at this
      go_wp2_with fail
      go_ret
      exact ⟨_, rfl, by have := HP.out; omega, HE.out, HB.out⟩
end Go.Proofs.YtcelijjohcfhkaaDoor
