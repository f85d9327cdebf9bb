/- What the laws of chapter 13 keep of memory; what follows for lists. -/
import Derived.Test.YtihmdnbeonefcaaDoorZ4N1H
import Derived.Test.YtihmdnbeonefcaaDoorZ4I
import Derived.Test.YtihmdnbeonefcaaDoorZ4N1L
import Derived.Test.YtihmdnbeonefcaaDoorNew
import Derived.Test.YtihmdnbeonefcaaDoorG1I
import Derived.BigQuiet

namespace Go.Proofs.YtihmdnbeonefcaaDoor
set_option linter.unusedVariables false
set_option linter.unusedSimpArgs false
open Go Go.RowKit Go.Sort

/-- The law's graph lies in its box; the library's table lies. -/
structure LW (w0 : World) (G N : Nat) (a : Option Addr) (c : Nat) (ps : List (Int × Int)) (w : World) : Prop where
  x : w.heap[G]? = some (.cells #[.int .i64 (N : Int), .slice a ps.length c] 27 (0, 0))
  p : PairsAt w (.slice a ps.length c) ps
  t : Tab w
  b : Below w0.heap.size w0 w
theorem LW.go {w0 : World} {G N : Nat} {a : Option Addr} {c : Nat} {ps : List (Int × Int)} {w w' : World} (h : LW w0 G N a c ps w) (hb : Below w.heap.size w w') : LW w0 G N a c ps w' :=
  ⟨blk_kept2 h.x hb, h.p.below hb, h.t.go hb, h.b.trans (Below.mono hb h.b.size)⟩
theorem LW.c0 {w0 : World} {G N : Nat} {a : Option Addr} {c : Nat} {ps : List (Int × Int)} {w : World} (h : LW w0 G N a c ps w) : w.cell? ⟨G, 0, none⟩ = some (.int .i64 (N : Int)) := cell_two0 h.x
theorem LW.c1 {w0 : World} {G N : Nat} {a : Option Addr} {c : Nat} {ps : List (Int × Int)} {w : World} (h : LW w0 G N a c ps w) : w.cell? ⟨G, 1, none⟩ = some (.slice a ps.length c) := cell_two1 h.x
theorem LW.l {w0 : World} {G N : Nat} {a : Option Addr} {c : Nat} {ps : List (Int × Int)} {w : World} (h : LW w0 G N a c ps w) : G < w.heap.size := lt_of_block h.x
theorem below_read13 {w a a' : World} {b : Nat} (h : Below b w a) (hg : a.grownBy a' (some b)) (hna : b ≤ a.heap.size) : Below b w a' := below_app5 h hg (fun g e => by injection e with e; omega) hna

/-- A set with a node more. -/
def plusX (X : Nat → Bool) (I : Nat) (k : Nat) : Bool := decide (k = I) || X k
theorem memB_back {N : Nat} {X : Nat → Bool} : ∀ i, i < N → memB (setL N X) i = X i := fun i hi => by rw [memB_setL, decide_eq_true hi, Bool.true_and]
section
variable {N : Nat} {ps : List (Int × Int)} (hix : ∀ p ∈ ps, (0 ≤ p.1 ∧ p.1 < (N : Int)) ∧ (0 ≤ p.2 ∧ p.2 < (N : Int)))
include hix
theorem admX_congr {X Y : Nat → Bool} (h : ∀ i, i < N → X i = Y i) : admX N ps X = admX N ps Y := by
  unfold admX
  rw [cfX_congr hix h]
  congr 1
  rw [Bool.eq_iff_iff, subX_iff, subX_iff]
  constructor
  · intro hh i hi hy
    rw [← dfX_congr hix h]
    exact hh i hi (by rw [h i hi]; exact hy)
  · intro hh i hi hx
    rw [dfX_congr hix h]
    exact hh i hi (by rw [← h i hi]; exact hx)
theorem adm_set (X : Nat → Bool) : admX N ps (memB (setL N X)) = admX N ps X := admX_congr hix memB_back
theorem cf_set (X : Nat → Bool) : cfX ps (memB (setL N X)) = cfX ps X := cfX_congr hix memB_back
theorem step_set (X : Nat → Bool) : stepL N ps (setL N X) = setL N (dfX ps X) := by
  rw [stepL_of (setB_setL N X)]
  exact setL_congr fun i _ => dfX_congr hix memB_back i
/-- The law AdmissibleLemma at a set and a node that it defends. -/
theorem lemma_one {x : List Int} (hs : setB N x = true) (ha : admX N ps (memB x) = true) {I : Nat} (hI : I < N) (hd : dfX ps (memB x) I = true) :
    (setB N (setL N (plusX (memB x) I)) && admX N ps (memB (setL N (plusX (memB x) I)))) = true ∧ subL (stepL N ps x) (stepL N ps (setL N (plusX (memB x) I))) = true := by
  constructor
  · rw [setB_setL, adm_set hix, Bool.true_and]
    refine adm_more hix ha (fun i _ hx => by unfold plusX; rw [hx, Bool.or_true]) (fun i hi hy => ?_)
    unfold plusX at hy
    rw [Bool.or_eq_true, decide_eq_true_eq] at hy
    rcases hy with rfl | hy
    · exact hd
    · exact (admX_iff.1 ha).2 i hi hy
  · rw [stepL_of hs, step_set hix, subL_set, subX_iff]
    exact fun i _ h => dfX_mono hix (fun i _ hx => by unfold plusX; rw [hx, Bool.or_true]) h
/-- The law AdmissibleUnion at two sets. -/
theorem union_one {x y : List Int} (ha : admX N ps (memB x) = true) (hb : admX N ps (memB y) = true) :
    ((setB N (setL N (orX (memB x) (memB y))) && cfX ps (memB (setL N (orX (memB x) (memB y))))) = true → (setB N (setL N (orX (memB x) (memB y))) && admX N ps (memB (setL N (orX (memB x) (memB y))))) = true) := by
  rw [setB_setL, cf_set hix, adm_set hix, Bool.true_and, Bool.true_and]
  exact adm_union hix ha hb
theorem stable_one {x : List Int} (h : (setB N x && stabX N ps (memB x)) = true) : (setB N x && compX N ps (memB x)) = true := by
  rw [Bool.and_eq_true] at *
  exact ⟨h.1, stab_comp hix h.2⟩
end
end Go.Proofs.YtihmdnbeonefcaaDoor
