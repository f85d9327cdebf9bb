/- The sets of the nodes that each node attacks. -/
import Derived.Test.YtfiaoibfejginaaDoorG0J
import Derived.Test.YtfiaoibfejginaaDoorG0I
import Derived.BigRegion
namespace Go.Proofs.YtfiaoibfejginaaDoor
set_option linter.unusedVariables false
set_option linter.unusedSimpArgs false
open Go Go.RowKit Go.Sort

/-- A valid graph. -/
structure GOk (n : Int) (ps : List (Int × Int)) : Prop where
  n0 : 0 ≤ n
  n40 : n ≤ 40
  ix : ∀ p ∈ ps, (0 ≤ p.1 ∧ p.1 < n) ∧ (0 ≤ p.2 ∧ p.2 < n)
  up : ps.Pairwise fun a b => geP a b = false

def geO (p : Option (Int × Int)) (x : Int × Int) : Bool := match p with | none => false | some y => geP y x
theorem valFrom_cons (n : Int) (p : Option (Int × Int)) (x : Int × Int) (r : List (Int × Int)) : valFrom n p (x :: r) = if (ixB x.1 n && ixB x.2 n) = false then 1 else if geO p x = true then 8 else valFrom n (some x) r := by
  cases p <;> rfl
theorem valFrom_ok (n : Int) : ∀ (xs : List (Int × Int)) (p : Option (Int × Int)), valFrom n p xs = 0 → (∀ x ∈ xs, (0 ≤ x.1 ∧ x.1 < n) ∧ (0 ≤ x.2 ∧ x.2 < n)) ∧ xs.Pairwise (fun a b => geP a b = false) ∧ ∀ y, p = some y → ∀ x ∈ xs, geP y x = false
  | [], p, _ => ⟨fun x h => (by cases h), List.Pairwise.nil, fun y _ x h => (by cases h)⟩
  | x :: r, p, h => by
    rw [valFrom_cons] at h
    by_cases h1 : (ixB x.1 n && ixB x.2 n) = false
    · rw [if_pos h1] at h; cases h
    rw [if_neg h1] at h
    by_cases h2 : geO p x = true
    · rw [if_pos h2] at h; cases h
    rw [if_neg h2] at h
    obtain ⟨i1, i2, i3⟩ := valFrom_ok n r (some x) h
    have h1' : ixB x.1 n = true ∧ ixB x.2 n = true := by simpa using h1
    refine ⟨fun y hy => ?_, List.pairwise_cons.2 ⟨fun y hy => i3 x rfl y hy, i2⟩, fun y e z hz => ?_⟩
    · rcases List.mem_cons.1 hy with rfl | hy
      · exact ⟨ixB_true h1'.1, ixB_true h1'.2⟩
      · exact i1 y hy
    · subst e
      have h3 : geP y x = false := by simpa [geO] using h2
      rcases List.mem_cons.1 hz with rfl | hz
      · exact h3
      · have h4 := i3 x rfl z hz
        unfold geP at *
        simp only [decide_eq_false_iff_not] at *
        omega
theorem valE_ok {n : Int} {xs : List (Int × Int)} (h : valE n xs = 0) : GOk n xs := by
  unfold valE at h
  by_cases hn : n < 0 ∨ 40 < n
  · rw [if_pos hn] at h; cases h
  rw [if_neg hn] at h
  obtain ⟨h1, h2, -⟩ := valFrom_ok n xs none h
  exact ⟨by omega, by omega, h1, h2⟩
theorem v_ok (n : Int) (xs : List (Int × Int)) : GOk (vN n xs) (vL n xs) := by
  unfold vN vL
  by_cases h : valE n xs = 0
  · rw [if_pos h, if_pos h]; exact valE_ok h
  · rw [if_neg h, if_neg h]; exact ⟨by decide, by decide, fun x h => (by cases h), List.Pairwise.nil⟩

/-- The nodes that i attacks, as bits. -/
def attB (ps : List (Int × Int)) (i : Nat) : BitVec 64 := ps.foldl (fun s p => if p.1 = (i : Int) then s ||| oneB p.2.toNat else s) 0#64
theorem attB_step {ps : List (Int × Int)} {k : Nat} (h : k < ps.length) (i : Nat) : attB (ps.take (k + 1)) i = if ps[k].1 = (i : Int) then attB (ps.take k) i ||| oneB ps[k].2.toNat else attB (ps.take k) i := by
  unfold attB
  rw [List.take_succ_eq_append_getElem h, List.foldl_append]
  rfl
theorem attB_bit (ps : List (Int × Int)) (i j : Nat) (h : ∀ p ∈ ps, 0 ≤ p.2 ∧ p.2 < 64) : (attB ps i).getLsbD j = decide (((i : Int), (j : Int)) ∈ ps) := by
  have gen : ∀ (ps : List (Int × Int)) (s : BitVec 64), (∀ p ∈ ps, 0 ≤ p.2 ∧ p.2 < 64) → (ps.foldl (fun s p => if p.1 = (i : Int) then s ||| oneB p.2.toNat else s) s).getLsbD j = (s.getLsbD j || decide (((i : Int), (j : Int)) ∈ ps)) := by
    intro ps
    induction ps with
    | nil => intro s _; simp
    | cons x r ih =>
      intro s hp
      rw [List.foldl_cons, ih _ (fun p hm => hp p (List.mem_cons_of_mem _ hm))]
      obtain ⟨h0, h1⟩ := hp x (List.mem_cons_self ..)
      obtain ⟨a, b⟩ := x
      simp only at h0 h1
      by_cases e : a = (i : Int)
      · rw [if_pos e, BitVec.getLsbD_or, BitVec.getLsbD_twoPow]
        have e2 : (decide (b.toNat < 64) && decide (b.toNat = j)) = decide (((i : Int), (j : Int)) = (a, b)) := by
          rw [Bool.eq_iff_iff]
          simp only [Bool.and_eq_true, decide_eq_true_eq, Prod.mk.injEq]
          omega
        rw [e2]
        cases s.getLsbD j <;> simp [List.mem_cons]
      · rw [if_neg e]
        have : ¬ (((i : Int), (j : Int)) = (a, b)) := fun h => e (by injection h with h1 h2; exact h1.symm)
        simp [List.mem_cons, this]
  have := gen ps 0#64 h
  rw [attB, this]
  simp

/-- A row of sets. -/
def cellsU (n : Nat) (f : Nat → BitVec 64) : Array Value := ((List.range n).map fun i => bv (f i)).toArray
theorem cellsU_size (n : Nat) (f : Nat → BitVec 64) : (cellsU n f).size = n := by simp [cellsU]
theorem cellsU_get {n : Nat} {f : Nat → BitVec 64} {i : Nat} (h : i < n) : (cellsU n f)[i]? = some (bv (f i)) := by simp [cellsU, h]
def updB (f : Nat → BitVec 64) (i : Nat) (S : BitVec 64) : Nat → BitVec 64 := fun j => if j = i then S else f j
theorem cellsU_set (n : Nat) (f : Nat → BitVec 64) (i : Nat) (S : BitVec 64) : (cellsU n f).setIfInBounds i (bv S) = cellsU n (updB f i S) := by
  apply Array.ext_getElem?
  intro j
  rw [Array.getElem?_setIfInBounds, cellsU_size]
  by_cases hj : j < n
  · rw [cellsU_get hj, cellsU_get hj]
    unfold updB
    by_cases e : i = j
    · subst e; simp [hj]
    · rw [if_neg e, if_neg (Ne.symm e)]
  · have h1 : (cellsU n f)[j]? = none := Array.getElem?_eq_none (by rw [cellsU_size]; omega)
    have h2 : (cellsU n (updB f i S))[j]? = none := Array.getElem?_eq_none (by rw [cellsU_size]; omega)
    rw [h1, h2]
    by_cases e : i = j
    · subst e; simp [hj]
    · rw [if_neg e]
/-- A row of n sets in a block. -/
def SetsAt (w : World) (b n : Nat) (f : Nat → BitVec 64) : Prop := w.heap[b]? = some (.cells (cellsU n f) 54 (0, 0))
theorem SetsAt.cell {w : World} {b n : Nat} {f : Nat → BitVec 64} (h : SetsAt w b n f) {i : Nat} (hi : i < n) : w.cell? ⟨b, i, none⟩ = some (bv (f i)) := by
  unfold SetsAt at h
  simp [World.cell?, h, cellsU_get hi]
theorem SetsAt.set {w : World} {b n : Nat} {f : Nat → BitVec 64} (h : SetsAt w b n f) (i : Nat) (S : BitVec 64) : SetsAt (w.setCell ⟨b, i, none⟩ (bv S)) b n (updB f i S) := by
  unfold SetsAt
  rw [set_cells h, cellsU_set]
theorem SetsAt.go {w w' : World} {b n : Nat} {f : Nat → BitVec 64} (h : SetsAt w b n f) (hb : Below w.heap.size w w') : SetsAt w' b n f := blk_kept2 h hb

theorem infoU9 : (Tryd.prog.info? 54).map (fun i => (i.zero, i.size, i.bytes)) = some (some (.int .u64 0), 1, 8) := by kernel_rfl
theorem made_zero (n : Nat) : madeCells #[.int .u64 0] n = cellsU n (fun _ => 0#64) := by
  apply Array.ext_getElem?
  intro i
  by_cases h : i < n
  · rw [cellsU_get h]
    unfold madeCells
    simp [h]
    rw [show i % 1 = 0 from Nat.mod_one i]
    rfl
  · have h1 : (cellsU n (fun _ => 0#64))[i]? = none := Array.getElem?_eq_none (by rw [cellsU_size]; omega)
    rw [h1]
    unfold madeCells
    simp
    omega
end Go.Proofs.YtfiaoibfejginaaDoor
