/- Graphs beside a reader, lists of graphs, relations for GraphValidates' drawn regions. -/
import Derived.Test.YtghnojmaciljoaaG1Q
namespace Go.Proofs.Ytghnojmaciljoaa
set_option linter.unusedVariables false
set_option linter.unusedSimpArgs false
open Go Go.RowKit Go.Sort

/-- Pairs that do not lie in block b. -/
def PX (b : Nat) (w : World) (v : Value) (ps : List (Int × Int)) : Prop := PairsAt w v ps ∧ (ps = [] ∨ ∀ g o l c, v = .slice (some ⟨g, o, none⟩) l c → g ≠ b)
theorem PX.of {w : World} {B b k : Nat} {zs : List Int} {v : Value} {ps : List (Int × Int)} (h : PairsAt w v ps) (hs : SrcAt w B b zs k) : PX b w v ps := by
  refine ⟨h, ?_⟩
  rcases h with ⟨-, rfl⟩ | ⟨g, off, cap, rfl, -, -, -, hc⟩
  · exact .inl rfl
  · by_cases he : ps = []
    · exact .inl he
    · refine .inr fun g' o l c e hg => ?_
      injection e with e
      injection e with e
      injection e with e1 e2
      subst e1 e2 hg
      have h0 : 0 < ps.length := List.length_pos_iff.2 he
      obtain ⟨c0, c1⟩ := hc 0 h0
      obtain ⟨a, cp, hb, -⟩ := hs.ex
      rw [Nat.zero_mul, Nat.add_zero] at c0 c1
      simp only [World.cell?, hb] at c0 c1
      rcases off with _ | _ | off
      · simp at c0
      · simp at c1
      · simp at c0
theorem PX.keep {w w' : World} {b : Nat} {v : Value} {ps : List (Int × Int)} (h : PX b w v ps) (hg : w.grownBy w' (some b)) : PX b w' v ps := by
  obtain ⟨h1, h2⟩ := h
  refine ⟨?_, h2⟩
  rcases h1 with h1 | ⟨g, off, cap, rfl, h3, h4, h5, hc⟩
  · exact .inl h1
  · refine .inr ⟨g, off, cap, rfl, h3, h4, Nat.lt_of_lt_of_le h5 hg.size, fun i hi => ?_⟩
    have hne : g ≠ b := by
      rcases h2 with rfl | h2
      · simp at hi
      · exact h2 g off _ cap rfl
    exact ⟨hg.cell (hc i hi).1 (fun e => hne (by first | exact Option.some.inj e | exact (Option.some.inj e).symm)), hg.cell (hc i hi).2 (fun e => hne (by first | exact Option.some.inj e | exact (Option.some.inj e).symm))⟩
theorem PX.go {w w' : World} {b : Nat} {v : Value} {ps : List (Int × Int)} (h : PX b w v ps) (hb : Below w.heap.size w w') : PX b w' v ps := ⟨h.1.below hb, h.2⟩

namespace Own
/-- A graph, not in block b. -/
def isGx (b : Nat) (n : Int) (ps : List (Int × Int)) : Value → World → Prop := fun v w => ∃ (a : Option Addr) (c : Nat), v = .agg #[.int .i64 n, .slice a ps.length c] ∧ PX b w (.slice a ps.length c) ps
theorem isGx_up (b : Nat) (n : Int) (ps : List (Int × Int)) : UpB b (isGx b n ps) := fun _ _ _ hg ⟨a, c, h1, h2⟩ => ⟨a, c, h1, h2.keep hg⟩
/-- Some graph with at most m attacks. -/
def isGy (b m : Nat) : Value → World → Prop := fun v w => ∃ (n : Int) (ps : List (Int × Int)), ps.length ≤ m ∧ isGx b n ps v w
theorem isGy_up (b m : Nat) : UpB b (isGy b m) := fun _ _ _ hg ⟨n, ps, h1, h2⟩ => ⟨n, ps, h1, isGx_up b n ps _ _ _ hg h2⟩
end Own

/-- A list of graphs, as its cells read. -/
def GsAt (w : World) (b : Nat) (gs : List (Int × List (Int × Int))) : Prop :=
  b < w.heap.size ∧ ∀ i (h : i < gs.length), gs[i].2.length ≤ 1000 ∧ ∃ (a : Option Addr) (c : Nat), w.cell? ⟨b, i * 2, none⟩ = some (.int .i64 gs[i].1) ∧ w.cell? ⟨b, i * 2 + 1, none⟩ = some (.slice a gs[i].2.length c) ∧ PairsAt w (.slice a gs[i].2.length c) gs[i].2
theorem GsAt.go {w w' : World} {b : Nat} {gs : List (Int × List (Int × Int))} (h : GsAt w b gs) (hb : Below w.heap.size w w') : GsAt w' b gs := by
  obtain ⟨h1, h2⟩ := h
  refine ⟨Nat.lt_of_lt_of_le h1 hb.size, fun i hi => ?_⟩
  obtain ⟨h0, a, c, h3, h4, h5⟩ := h2 i hi
  exact ⟨h0, a, c, (Below.cell (p := ⟨b, i * 2, none⟩) hb h1).trans h3, (Below.cell (p := ⟨b, i * 2 + 1, none⟩) hb h1).trans h4, h5.below hb⟩
/-- A list of graphs beside a reader. -/
def GsX (b : Nat) (w : World) (g : Nat) (gs : List (Int × List (Int × Int))) : Prop :=
  g < w.heap.size ∧ g ≠ b ∧ ∀ i (h : i < gs.length), gs[i].2.length ≤ 1000 ∧ ∃ (a : Option Addr) (c : Nat), w.cell? ⟨g, i * 2, none⟩ = some (.int .i64 gs[i].1) ∧ w.cell? ⟨g, i * 2 + 1, none⟩ = some (.slice a gs[i].2.length c) ∧ PX b w (.slice a gs[i].2.length c) gs[i].2
theorem GsX.gs {b g : Nat} {w : World} {gs : List (Int × List (Int × Int))} (h : GsX b w g gs) : GsAt w g gs := by
  obtain ⟨h1, -, h2⟩ := h
  refine ⟨h1, fun i hi => ?_⟩
  obtain ⟨h0, a, c, h3, h4, h5⟩ := h2 i hi
  exact ⟨h0, a, c, h3, h4, h5.1⟩
theorem GsX.keep {b g : Nat} {w w' : World} {gs : List (Int × List (Int × Int))} (h : GsX b w g gs) (hg : w.grownBy w' (some b)) : GsX b w' g gs := by
  obtain ⟨h1, hne, h2⟩ := h
  refine ⟨Nat.lt_of_lt_of_le h1 hg.size, hne, fun i hi => ?_⟩
  obtain ⟨h0, a, c, h3, h4, h5⟩ := h2 i hi
  exact ⟨h0, a, c, hg.cell h3 (fun e => hne (by first | exact Option.some.inj e | exact (Option.some.inj e).symm)), hg.cell h4 (fun e => hne (by first | exact Option.some.inj e | exact (Option.some.inj e).symm)), h5.keep hg⟩
namespace Own
end Own
/-- Numbers that grow from k on below M are at most M - k. -/
theorem up_len : ∀ (l : List Nat) (k M : Nat), l.Pairwise (· < ·) → (∀ x ∈ l, k ≤ x ∧ x < M) → l.length ≤ M - k
  | [], k, M, _, _ => Nat.zero_le _
  | x :: r, k, M, h, hb => by
    obtain ⟨h1, h2⟩ := List.pairwise_cons.1 h
    have hx := hb x (List.mem_cons_self ..)
    have := up_len r (x + 1) M h2 (fun y hy => ⟨h1 y hy, (hb y (List.mem_cons_of_mem _ hy)).2⟩)
    rw [List.length_cons]
    omega
theorem pairs_few {N : Nat} {ps : List (Int × Int)} (h : GOk (N : Int) ps) (hN : N ≤ 8) : ps.length ≤ 64 := by
  have h1 : (ps.map fun p => p.1.toNat * 8 + p.2.toNat).Pairwise (· < ·) := by
    rw [List.pairwise_map]
    refine List.Pairwise.imp_of_mem ?_ h.up
    intro a b ha hb hab
    have h3 := h.ix a ha
    have h4 := h.ix b hb
    unfold geP at hab
    have h5 := of_decide_eq_false hab
    omega
  have h2 := up_len _ 0 64 h1 (fun x hx => by
    obtain ⟨p, hp, rfl⟩ := List.mem_map.1 hx
    have h3 := h.ix p hp
    omega)
  rw [List.length_map] at h2
  omega
theorem Own.isGx_use {b : Nat} {n m : Int} {ps : List (Int × Int)} {l : Nat} {a : Option Addr} {c : Nat} {w : World} (h : Own.isGx b n ps (.agg #[.int .i64 m, .slice a l c]) w) : l = ps.length ∧ PX b w (.slice a ps.length c) ps := by
  obtain ⟨a', c', he, h2⟩ := h
  injection he with he
  have e := congrArg Array.toList he
  simp only [List.cons.injEq, and_true] at e
  obtain ⟨e1, e2⟩ := e
  injection e2 with e2 e3 e4
  subst e2 e4
  exact ⟨e3, h2⟩
end Go.Proofs.Ytghnojmaciljoaa
