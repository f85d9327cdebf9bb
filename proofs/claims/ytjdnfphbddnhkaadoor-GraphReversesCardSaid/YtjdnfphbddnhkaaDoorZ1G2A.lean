/- Graphs beside a reader, lists of graphs, relations for GraphValidates' drawn regions. -/
import Derived.Test.YtjdnfphbddnhkaaDoorZ1G1Q
import Derived.Test.YtjdnfphbddnhkaaDoorZ1A
import Derived.Test.YtjdnfphbddnhkaaDoorG1I
import Derived.Test.YtjdnfphbddnhkaaDoorG1G
import Derived.Test.YtjdnfphbddnhkaaDoorNew

namespace Go.Proofs.YtjdnfphbddnhkaaDoor
set_option linter.unusedVariables false
set_option linter.unusedSimpArgs false
open Go Go.RowKit Go.Sort

/-- Pairs that do not lie in block b. -/
def PX (b : Nat) (w : World) (v : Value) (ps : List (Int × Int)) : Prop := PairsAt w v ps ∧ (ps = [] ∨ ∀ g o l c, v = .slice (some ⟨g, o, none⟩) l c → g ≠ b)
theorem PX.of {w : World} {B b k : Nat} {zs : List Int} {v : Value} {ps : List (Int × Int)} (h : PairsAt w v ps) (hs : SrcAt w B b zs k) : PX b w v ps := by
  refine ⟨h, ?_⟩
  rcases h with ⟨-, rfl⟩ | ⟨g, off, cap, rfl, -, -, -, hc⟩
  · exact .inl rfl
  · by_cases he : ps = []
    · exact .inl he
    · refine .inr fun g' o l c e hg => ?_
      injection e with e
      injection e with e
      injection e with e1 e2
      subst e1 e2 hg
      have h0 : 0 < ps.length := List.length_pos_iff.2 he
      obtain ⟨c0, c1⟩ := hc 0 h0
      obtain ⟨a, cp, hb, -⟩ := hs.ex
      rw [Nat.zero_mul, Nat.add_zero] at c0 c1
      simp only [World.cell?, hb] at c0 c1
      rcases off with _ | _ | off
      · simp at c0
      · simp at c1
      · simp at c0
theorem PX.keep {w w' : World} {b : Nat} {v : Value} {ps : List (Int × Int)} (h : PX b w v ps) (hg : w.grownBy w' (some b)) : PX b w' v ps := by
  obtain ⟨h1, h2⟩ := h
  refine ⟨?_, h2⟩
  rcases h1 with h1 | ⟨g, off, cap, rfl, h3, h4, h5, hc⟩
  · exact .inl h1
  · refine .inr ⟨g, off, cap, rfl, h3, h4, Nat.lt_of_lt_of_le h5 hg.size, fun i hi => ?_⟩
    have hne : g ≠ b := by
      rcases h2 with rfl | h2
      · simp at hi
      · exact h2 g off _ cap rfl
    exact ⟨hg.cell (hc i hi).1 (fun e => hne (by first | exact Option.some.inj e | exact (Option.some.inj e).symm)), hg.cell (hc i hi).2 (fun e => hne (by first | exact Option.some.inj e | exact (Option.some.inj e).symm))⟩
theorem PX.go {w w' : World} {b : Nat} {v : Value} {ps : List (Int × Int)} (h : PX b w v ps) (hb : Below w.heap.size w w') : PX b w' v ps := ⟨h.1.below hb, h.2⟩

namespace Own
/-- A graph, not in block b. -/
def isGx (b : Nat) (n : Int) (ps : List (Int × Int)) : Value → World → Prop := fun v w => ∃ (a : Option Addr) (c : Nat), v = .agg #[.int .i64 n, .slice a ps.length c] ∧ PX b w (.slice a ps.length c) ps
theorem isGx_up (b : Nat) (n : Int) (ps : List (Int × Int)) : UpB b (isGx b n ps) := fun _ _ _ hg ⟨a, c, h1, h2⟩ => ⟨a, c, h1, h2.keep hg⟩
/-- Some graph with at most m attacks. -/
def isGy (b m : Nat) : Value → World → Prop := fun v w => ∃ (n : Int) (ps : List (Int × Int)), ps.length ≤ m ∧ isGx b n ps v w
theorem isGy_up (b m : Nat) : UpB b (isGy b m) := fun _ _ _ hg ⟨n, ps, h1, h2⟩ => ⟨n, ps, h1, isGx_up b n ps _ _ _ hg h2⟩
/-- A list of numbers. -/
def isI (xs : List Int) : Value → World → Prop := fun v w => ∃ (a : Option Addr) (c : Nat), v = .slice a xs.length c ∧ IL w (.slice a xs.length c) xs
theorem isI_up (xs : List Int) : GoesUp (isI xs) := fun _ _ _ hg ⟨a, c, h1, h2⟩ => ⟨a, c, h1, h2.below hg⟩
theorem isI_use {xs : List Int} {a : Option Addr} {c : Nat} {w : World} (h : isI xs (.slice a xs.length c) w) : IL w (.slice a xs.length c) xs := by
  obtain ⟨a', c', he, h2⟩ := h
  rw [he]
  exact h2
end Own

/-- A list of graphs, as its cells read. -/
def GsAt (w : World) (b : Nat) (gs : List (Int × List (Int × Int))) : Prop :=
  b < w.heap.size ∧ ∀ i (h : i < gs.length), gs[i].2.length ≤ 1000 ∧ ∃ (a : Option Addr) (c : Nat), w.cell? ⟨b, i * 2, none⟩ = some (.int .i64 gs[i].1) ∧ w.cell? ⟨b, i * 2 + 1, none⟩ = some (.slice a gs[i].2.length c) ∧ PairsAt w (.slice a gs[i].2.length c) gs[i].2
theorem GsAt.go {w w' : World} {b : Nat} {gs : List (Int × List (Int × Int))} (h : GsAt w b gs) (hb : Below w.heap.size w w') : GsAt w' b gs := by
  obtain ⟨h1, h2⟩ := h
  refine ⟨Nat.lt_of_lt_of_le h1 hb.size, fun i hi => ?_⟩
  obtain ⟨h0, a, c, h3, h4, h5⟩ := h2 i hi
  exact ⟨h0, a, c, (Below.cell (p := ⟨b, i * 2, none⟩) hb h1).trans h3, (Below.cell (p := ⟨b, i * 2 + 1, none⟩) hb h1).trans h4, h5.below hb⟩
/-- A list of graphs beside a reader. -/
def GsX (b : Nat) (w : World) (g : Nat) (gs : List (Int × List (Int × Int))) : Prop :=
  g < w.heap.size ∧ g ≠ b ∧ ∀ i (h : i < gs.length), gs[i].2.length ≤ 1000 ∧ ∃ (a : Option Addr) (c : Nat), w.cell? ⟨g, i * 2, none⟩ = some (.int .i64 gs[i].1) ∧ w.cell? ⟨g, i * 2 + 1, none⟩ = some (.slice a gs[i].2.length c) ∧ PX b w (.slice a gs[i].2.length c) gs[i].2
theorem GsX.gs {b g : Nat} {w : World} {gs : List (Int × List (Int × Int))} (h : GsX b w g gs) : GsAt w g gs := by
  obtain ⟨h1, -, h2⟩ := h
  refine ⟨h1, fun i hi => ?_⟩
  obtain ⟨h0, a, c, h3, h4, h5⟩ := h2 i hi
  exact ⟨h0, a, c, h3, h4, h5.1⟩
theorem GsX.keep {b g : Nat} {w w' : World} {gs : List (Int × List (Int × Int))} (h : GsX b w g gs) (hg : w.grownBy w' (some b)) : GsX b w' g gs := by
  obtain ⟨h1, hne, h2⟩ := h
  refine ⟨Nat.lt_of_lt_of_le h1 hg.size, hne, fun i hi => ?_⟩
  obtain ⟨h0, a, c, h3, h4, h5⟩ := h2 i hi
  exact ⟨h0, a, c, hg.cell h3 (fun e => hne (by first | exact Option.some.inj e | exact (Option.some.inj e).symm)), hg.cell h4 (fun e => hne (by first | exact Option.some.inj e | exact (Option.some.inj e).symm)), h5.keep hg⟩
namespace Own
def isFive (b : Nat) : Value → World → Prop := fun v w => ∃ (g : Nat) (gs : List (Int × List (Int × Int))), v = .slice (some ⟨g, 0, none⟩) 5 5 ∧ gs.length = 5 ∧ GsX b w g gs
theorem isFive_up (b : Nat) : UpB b (isFive b) := fun _ _ _ hg ⟨g, gs, h1, h2, h3⟩ => ⟨g, gs, h1, h2, h3.keep hg⟩
end Own
theorem gsx_blk {b : Nat} {w : World} (hb : b < w.heap.size) {n1 n2 n3 n4 n5 : Int} {a1 a2 a3 a4 a5 : Option Addr} {c1 c2 c3 c4 c5 : Nat} {p1 p2 p3 p4 p5 : List (Int × Int)}
    (h1 : PX b w (.slice a1 p1.length c1) p1) (h2 : PX b w (.slice a2 p2.length c2) p2) (h3 : PX b w (.slice a3 p3.length c3) p3) (h4 : PX b w (.slice a4 p4.length c4) p4) (h5 : PX b w (.slice a5 p5.length c5) p5)
    (l1 : p1.length ≤ 1000) (l2 : p2.length ≤ 1000) (l3 : p3.length ≤ 1000) (l4 : p4.length ≤ 1000) (l5 : p5.length ≤ 1000) (t : TypeId) :
    GsX b (w.alloc (.cells #[.int .i64 n1, .slice a1 p1.length c1, .int .i64 n2, .slice a2 p2.length c2, .int .i64 n3, .slice a3 p3.length c3, .int .i64 n4, .slice a4 p4.length c4, .int .i64 n5, .slice a5 p5.length c5] t)) w.heap.size [(n1, p1), (n2, p2), (n3, p3), (n4, p4), (n5, p5)] := by
  have hn := heap_alloc_new w (.cells #[.int .i64 n1, .slice a1 p1.length c1, .int .i64 n2, .slice a2 p2.length c2, .int .i64 n3, .slice a3 p3.length c3, .int .i64 n4, .slice a4 p4.length c4, .int .i64 n5, .slice a5 p5.length c5] t)
  have hgr := bgrow w (.cells #[.int .i64 n1, .slice a1 p1.length c1, .int .i64 n2, .slice a2 p2.length c2, .int .i64 n3, .slice a3 p3.length c3, .int .i64 n4, .slice a4 p4.length c4, .int .i64 n5, .slice a5 p5.length c5] t)
  generalize w.alloc _ = W at hn hgr ⊢
  refine ⟨lt_of_block hn, by omega, fun i hi => ?_⟩
  match i, hi with
  | 0, _ => exact ⟨l1, a1, c1, by simp only [World.cell?, hn]; rfl, by simp only [World.cell?, hn]; rfl, h1.go hgr⟩
  | 1, _ => exact ⟨l2, a2, c2, by simp only [World.cell?, hn]; rfl, by simp only [World.cell?, hn]; rfl, h2.go hgr⟩
  | 2, _ => exact ⟨l3, a3, c3, by simp only [World.cell?, hn]; rfl, by simp only [World.cell?, hn]; rfl, h3.go hgr⟩
  | 3, _ => exact ⟨l4, a4, c4, by simp only [World.cell?, hn]; rfl, by simp only [World.cell?, hn]; rfl, h4.go hgr⟩
  | 4, _ => exact ⟨l5, a5, c5, by simp only [World.cell?, hn]; rfl, by simp only [World.cell?, hn]; rfl, h5.go hgr⟩
/-- Numbers that grow from k on below M are at most M - k. -/
theorem up_len : ∀ (l : List Nat) (k M : Nat), l.Pairwise (· < ·) → (∀ x ∈ l, k ≤ x ∧ x < M) → l.length ≤ M - k
  | [], k, M, _, _ => Nat.zero_le _
  | x :: r, k, M, h, hb => by
    obtain ⟨h1, h2⟩ := List.pairwise_cons.1 h
    have hx := hb x (List.mem_cons_self ..)
    have := up_len r (x + 1) M h2 (fun y hy => ⟨h1 y hy, (hb y (List.mem_cons_of_mem _ hy)).2⟩)
    rw [List.length_cons]
    omega
theorem pairs_few {N : Nat} {ps : List (Int × Int)} (h : GOk (N : Int) ps) (hN : N ≤ 8) : ps.length ≤ 64 := by
  have h1 : (ps.map fun p => p.1.toNat * 8 + p.2.toNat).Pairwise (· < ·) := by
    rw [List.pairwise_map]
    refine List.Pairwise.imp_of_mem ?_ h.up
    intro a b ha hb hab
    have h3 := h.ix a ha
    have h4 := h.ix b hb
    unfold geP at hab
    have h5 := of_decide_eq_false hab
    omega
  have h2 := up_len _ 0 64 h1 (fun x hx => by
    obtain ⟨p, hp, rfl⟩ := List.mem_map.1 hx
    have h3 := h.ix p hp
    omega)
  rw [List.length_map] at h2
  omega
theorem sameB_self (n : Int) (ps : List (Int × Int)) : sameB n n ps ps = true := by unfold sameB; simp
theorem rvL_len (n : Int) (ps : List (Int × Int)) : (rvL n ps).length ≤ ps.length := by
  have hok := v_ok n ps
  unfold rvL
  have h0 := hok.n0
  have e : ((vN n ps).toNat : Int) = vN n ps := by omega
  have h2 := revL_len (vN n ps).toNat (vL n ps) (by rw [e]; exact hok)
  rw [h2]
  exact vL_len n ps
theorem inL_len2 (n : Int) (ps : List (Int × Int)) (i : Int) : (inL (vL n ps) i).length ≤ ps.length := Nat.le_trans (inL_len _ _) (vL_len n ps)
theorem outL_len2 (n : Int) (ps : List (Int × Int)) (i : Int) : (outL (vL n ps) i).length ≤ ps.length := Nat.le_trans (outL_len _ _) (vL_len n ps)
/-- Relations of the walk in RelS: a value, a graph, a list of numbers. -/
def isVq (x : Value) : Value → World → Prop := fun v _ => v = x
theorem isVq_up (x : Value) : GoesUp (isVq x) := fun _ _ _ _ h => h
def isGq (n : Int) (ps : List (Int × Int)) : Value → World → Prop := fun v w => ∃ (a : Option Addr) (c : Nat), v = .agg #[.int .i64 n, .slice a ps.length c] ∧ PairsAt w (.slice a ps.length c) ps
theorem isGq_up (n : Int) (ps : List (Int × Int)) : GoesUp (isGq n ps) := fun _ _ _ hg ⟨a, c, h1, h2⟩ => ⟨a, c, h1, h2.below hg⟩
theorem isGq_use {n : Int} {ps : List (Int × Int)} {a : Option Addr} {c : Nat} {w : World} (h : isGq n ps (.agg #[.int .i64 n, .slice a ps.length c]) w) : PairsAt w (.slice a ps.length c) ps := by
  obtain ⟨a', c', he, h2⟩ := h
  injection he with he
  injection he with he
  injection he with e1 he
  injection he with e2 he
  rw [e2]
  exact h2
def isIq (m : Nat) (xs : List Int) : Value → World → Prop := fun v w => ∃ (a : Option Addr) (c : Nat), v = .slice a m c ∧ IL w (.slice a m c) xs
theorem isIq_up (m : Nat) (xs : List Int) : GoesUp (isIq m xs) := fun _ _ _ hg ⟨a, c, h1, h2⟩ => ⟨a, c, h1, h2.below hg⟩
theorem isIq_use {m : Nat} {xs : List Int} {a : Option Addr} {c : Nat} {w : World} (h : isIq m xs (.slice a m c) w) : IL w (.slice a m c) xs := by
  obtain ⟨a', c', he, h2⟩ := h
  rw [he]
  exact h2
theorem isIq_of {w : World} {v : Value} {xs : List Int} (h : IL w v xs) : isIq xs.length xs v w := by
  obtain ⟨a, c, rfl, -⟩ := h.form
  exact ⟨a, c, rfl, h⟩
theorem isGq_of {w : World} {v : Value} {n : Int} {ps : List (Int × Int)} (h : PairsAt w v ps) : isGq n ps (.agg #[.int .i64 n, v]) w := by
  obtain ⟨a, c, rfl, -⟩ := h.form
  exact ⟨a, c, rfl, h⟩
/-- Eight numbers laid in a row. -/
theorem cell_eight {w : World} {q : Nat} {x0 x1 x2 x3 x4 x5 x6 x7 : Int} {t : TypeId} {k : Nat × Nat} (h : w.heap[q]? = some (.cells #[.int .i64 x0, .int .i64 x1, .int .i64 x2, .int .i64 x3, .int .i64 x4, .int .i64 x5, .int .i64 x6, .int .i64 x7] t k)) (j : Nat) (hj : j < 8) : ∃ x : Int, w.cell? ⟨q, j, none⟩ = some (.int .i64 x) := by
  match j, hj with
  | 0, _ => exact ⟨x0, by simp only [World.cell?, h]; rfl⟩
  | 1, _ => exact ⟨x1, by simp only [World.cell?, h]; rfl⟩
  | 2, _ => exact ⟨x2, by simp only [World.cell?, h]; rfl⟩
  | 3, _ => exact ⟨x3, by simp only [World.cell?, h]; rfl⟩
  | 4, _ => exact ⟨x4, by simp only [World.cell?, h]; rfl⟩
  | 5, _ => exact ⟨x5, by simp only [World.cell?, h]; rfl⟩
  | 6, _ => exact ⟨x6, by simp only [World.cell?, h]; rfl⟩
  | 7, _ => exact ⟨x7, by simp only [World.cell?, h]; rfl⟩
/-- Some number laid at a place of a list. -/
def Eight (w : World) (q : Nat) : Prop := q < w.heap.size ∧ ∀ j, j < 8 → ∃ x : Int, w.cell? ⟨q, j, none⟩ = some (.int .i64 x)
theorem Eight.go {w w' : World} {q : Nat} (h : Eight w q) (hb : Below w.heap.size w w') : Eight w' q :=
  ⟨Nat.lt_of_lt_of_le h.1 hb.size, fun j hj => by obtain ⟨x, hx⟩ := h.2 j hj; exact ⟨x, (Below.cell (p := ⟨q, j, none⟩) hb h.1).trans hx⟩⟩
theorem Eight.of {w : World} {q : Nat} {x0 x1 x2 x3 x4 x5 x6 x7 : Int} {t : TypeId} {k : Nat × Nat} (h : w.heap[q]? = some (.cells #[.int .i64 x0, .int .i64 x1, .int .i64 x2, .int .i64 x3, .int .i64 x4, .int .i64 x5, .int .i64 x6, .int .i64 x7] t k)) : Eight w q := ⟨lt_of_block h, cell_eight h⟩
theorem Own.isGx_use {b : Nat} {n m : Int} {ps : List (Int × Int)} {l : Nat} {a : Option Addr} {c : Nat} {w : World} (h : Own.isGx b n ps (.agg #[.int .i64 m, .slice a l c]) w) : l = ps.length ∧ PX b w (.slice a ps.length c) ps := by
  obtain ⟨a', c', he, h2⟩ := h
  injection he with he
  have e := congrArg Array.toList he
  simp only [List.cons.injEq, and_true] at e
  obtain ⟨e1, e2⟩ := e
  injection e2 with e2 e3 e4
  subst e2 e4
  exact ⟨e3, h2⟩
theorem reachL_len2 (n : Int) (ps : List (Int × Int)) (i : Int) : (reachL (vN n ps) (vL n ps) i).length ≤ 40 := by
  have hok := (v_ok n ps).n40
  unfold reachL
  split
  · rw [ints_len]
    unfold reachN
    refine Nat.le_trans (List.length_filter_le _ _) ?_
    rw [List.length_range]
    omega
  · exact Nat.zero_le _
end Go.Proofs.YtjdnfphbddnhkaaDoor
