/- A graph that came in, as the walks are told of it. -/
import Derived.Test.YtghnojmaciljoaaG0Row
import Derived.Test.YtghnojmaciljoaaFrame
import Derived.ChangeSame
import Derived.Lib.SmallJoins
namespace Go.Proofs.Ytghnojmaciljoaa
set_option linter.unusedVariables false
set_option linter.unusedSimpArgs false
open Go.ChangeShapes Go.WideShapes Go.ChangeAt Go.RowKit Go.Joins

theorem pairCellsF : Try.prog.cellsOf 43 = 2 := by kernel_rfl
theorem graphCellsF : Try.prog.cellsOf 27 = 2 := by kernel_rfl
theorem intCellsF : Try.prog.cellsOf 3 = 1 := by kernel_rfl
theorem graphTypesF : Try.prog.cellTypes Try.prog.depth 27 = some [3, 25] := by kernel_rfl
theorem two_of_len {α : Type} : ∀ (cs : List α), cs.length = 2 → ∃ a b, cs = [a, b]
  | [a, b], _ => ⟨a, b, rfl⟩
theorem int_trod10 {H : Type} {enc : TypeId × Value → H} {w : World} {base : Nat} {spare : Nat → Bool} {held : Bool} {n : Nat} {c : Value} {y : DataW H × List MemPlace} (h : DataW.trod enc Try.prog w base spare held n 3 [c] = some y) : ∃ z : Int, c = .int .i64 z := by
  obtain ⟨g, hg, -, hs⟩ := DataW.trod_int Try.underlying3 h
  simp only [List.cons.injEq, and_true] at hg
  exact ⟨g, hg⟩

set_option maxRecDepth 100000 in
theorem pair_cells {H : Type} {enc : TypeId × Value → H} {w : World} {base : Nat} {spare : Nat → Bool} {held : Bool} {n : Nat} {x : Addr} {y : DataW H × List MemPlace}
    (h : (w.cells? base x 2).bind (DataW.trod enc Try.prog w base spare held n 43) = some y) : ∃ a : Int × Int, w.cell? (x.add 0) = some (.int .i64 a.1) ∧ w.cell? (x.add 1) = some (.int .i64 a.2) := by
  obtain ⟨cs, hc, ht⟩ := Option.bind_eq_some_iff.1 h
  obtain ⟨-, hl, hat⟩ := World.cells?_some hc
  obtain ⟨y0, y1, m, -, -, h0, h1⟩ := trod_struct2 Try.underlying43 ht
  obtain ⟨c0, c1, rfl⟩ := two_of_len cs hl
  have e0 : ([c0, c1].drop 0).take (Try.prog.cellsOf 3) = [c0] := by rw [intCellsF]; rfl
  have e1 : ([c0, c1].drop 1).take (Try.prog.cellsOf 3) = [c1] := by rw [intCellsF]; rfl
  have h0' : DataW.trod enc Try.prog w base spare held m 3 (([c0, c1].drop 0).take (Try.prog.cellsOf 3)) = some y0 := h0
  have h1' : DataW.trod enc Try.prog w base spare held m 3 (([c0, c1].drop 1).take (Try.prog.cellsOf 3)) = some y1 := h1
  rw [e0] at h0'
  rw [e1] at h1'
  obtain ⟨z0, rfl⟩ := int_trod10 h0'
  obtain ⟨z1, rfl⟩ := int_trod10 h1'
  exact ⟨(z0, z1), hat 0 (by omega), hat 1 (by omega)⟩

set_option maxRecDepth 100000 in
theorem pairs_open {H : Type} {enc : TypeId × Value → H} {w : World} {b0 base : Nat} {held : Bool} {v : Value} {fuel : Nat} {y : DataW H × List MemPlace} {spare : Nat → Bool}
    (hv : Cell.okWide Try.prog w .any b0 25 v) (hf : DataW.trod enc Try.prog w base spare held fuel 25 [v] = some y) : ∃ ps : List (Int × Int), PairsAt w v ps := by
  rcases DataW.trod_slice Try.underlying25 hf with ⟨hcs, -⟩ | ⟨x, len, cap, elems, rest, n, -, hcs, -, hb, hl, hm, hlen, hel, -, -⟩
  · simp only [List.cons.injEq, and_true] at hcs
    subst hcs
    exact ⟨[], .inl ⟨rfl, rfl⟩⟩
  · simp only [List.cons.injEq, and_true] at hcs
    subst hcs
    simp only [Cell.okWide, Try.underlying25, Cell.ok] at hv
    obtain ⟨-, -, -, hspot, row, cells, hshape, -⟩ := hv
    obtain ⟨b, off, sp⟩ := x
    simp only at hspot hshape
    subst hspot
    have hlt : b < w.heap.size := by
      rcases Nat.lt_or_ge b w.heap.size with h' | h'
      · exact h'
      · unfold World.shape? at hshape
        rw [Array.getElem?_eq_none h'] at hshape
        simp at hshape
    have key2 : ∀ i, ∃ x : Int × Int, i < len → w.cell? ⟨b, off + i * 2, none⟩ = some (.int .i64 x.1) ∧ w.cell? ⟨b, off + i * 2 + 1, none⟩ = some (.int .i64 x.2) := fun i => by
      by_cases hi : i < len
      · have h1 := hel i hi
        rw [pairCellsF, List.getElem?_eq_getElem (by omega)] at h1
        obtain ⟨x, h2, h3⟩ := pair_cells h1
        rw [add_plain, add_plain] at h2 h3
        exact ⟨x, fun _ => ⟨h2, h3⟩⟩
      · exact ⟨(0, 0), fun h => absurd h hi⟩
    have hlen' : ((List.range len).map fun i => Classical.choose (key2 i)).length = len := by simp
    refine ⟨(List.range len).map fun i => Classical.choose (key2 i), .inr ⟨b, off, cap, by rw [hlen'], by rw [hlen']; exact hl, hm, hlt, fun i hi => ?_⟩⟩
    rw [getElem!_pos _ i hi]
    have hi' := hi
    rw [hlen'] at hi'
    have e : ((List.range len).map fun i => Classical.choose (key2 i))[i] = Classical.choose (key2 i) := by simp
    rw [e]
    exact Classical.choose_spec (key2 i) hi'

set_option maxRecDepth 100000 in
theorem graph_open {H : Type} {enc : TypeId × Value → H} {w : World} {b0 base : Nat} {held : Bool} {v : Value} {d : DataW H} {p : List MemPlace} {spare : Nat → Bool}
    (hv : Value.okWide Try.prog w .any b0 27 v) (h : DataW.Trod enc Try.prog w base spare held 27 v d p) : ∃ (n : Int) (vs : Value) (ps : List (Int × Int)), v = .agg #[.int .i64 n, vs] ∧ PairsAt w vs ps := by
  obtain ⟨c0, c1, y0, y1, m, rfl, _, _, h0, h1⟩ := open_agg2 Try.underlying27 (by kernel_rfl) graphCellsF hv h
  obtain ⟨n, rfl⟩ := int_trod10 h0
  simp only [Value.okWide, Try.underlying27] at hv
  obtain ⟨cs, he, -, ts, hts, -, hcell⟩ := hv
  injection he with he
  subst he
  rw [graphTypesF] at hts
  injection hts with hts
  subst hts
  obtain ⟨u, hu, hok⟩ := hcell 1 c1 rfl
  have hu' : some (25 : TypeId) = some u := hu
  injection hu' with hu'
  subst hu'
  obtain ⟨ps, hps⟩ := pairs_open hok h1
  exact ⟨n, c1, ps, rfl, hps⟩
end Go.Proofs.Ytghnojmaciljoaa
