/- A list of attacks that came in, as the walks are told of it. -/
import Derived.Test.YtplkkkkcmfgkfaaGreatA9k
import Derived.Test.YtplkkkkcmfgkfaaGreatFrame
import Derived.ChangeSame
import Derived.Lib.SmallJoins
namespace Go.Proofs.YtplkkkkcmfgkfaaGreat
set_option linter.unusedVariables false
set_option linter.unusedSimpArgs false
open Go.ChangeShapes Go.WideShapes Go.ChangeAt Go.RowKit Go.Joins

theorem four_of_len {α : Type} : ∀ (cs : List α), cs.length = 4 → ∃ a b c d, cs = [a, b, c, d]
  | [a, b, c, d], _ => ⟨a, b, c, d, rfl⟩
theorem attCellsF : Tryz.prog.cellsOf 28 = 4 := by kernel_rfl
theorem intCellsF : Tryz.prog.cellsOf 3 = 1 := by kernel_rfl
theorem int_trod9 {H : Type} {enc : TypeId × Value → H} {w : World} {base : Nat} {spare : Nat → Bool} {held : Bool} {n : Nat} {c : Value} {y : DataW H × List MemPlace} (h : DataW.trod enc Tryz.prog w base spare held n 3 [c] = some y) : ∃ z : Int, c = .int .i64 z := by
  obtain ⟨g, hg, -, hs⟩ := DataW.trod_int Tryz.underlying3 h
  simp only [List.cons.injEq, and_true] at hg
  exact ⟨g, hg⟩

set_option maxRecDepth 100000 in
theorem att_cells {H : Type} {enc : TypeId × Value → H} {w : World} {base : Nat} {spare : Nat → Bool} {held : Bool} {n : Nat} {x : Addr} {y : DataW H × List MemPlace}
    (h : (w.cells? base x 4).bind (DataW.trod enc Tryz.prog w base spare held n 28) = some y) : ∃ a : At4, w.cell? (x.add 0) = some (.int .i64 a.f) ∧ w.cell? (x.add 1) = some (.int .i64 a.t) ∧ w.cell? (x.add 2) = some (.int .i64 a.s) ∧ w.cell? (x.add 3) = some (.int .i64 a.k) := by
  obtain ⟨cs, hc, ht⟩ := Option.bind_eq_some_iff.1 h
  obtain ⟨-, hl, hat⟩ := World.cells?_some hc
  obtain ⟨y0, y1, y2, y3, m, -, -, h0, h1, h2, h3⟩ := trod_struct4 Tryz.underlying28 ht
  obtain ⟨c0, c1, c2, c3, rfl⟩ := four_of_len cs hl
  have e0 : ([c0, c1, c2, c3].drop 0).take (Tryz.prog.cellsOf 3) = [c0] := by rw [intCellsF]; rfl
  have e1 : ([c0, c1, c2, c3].drop 1).take (Tryz.prog.cellsOf 3) = [c1] := by rw [intCellsF]; rfl
  have e2 : ([c0, c1, c2, c3].drop 2).take (Tryz.prog.cellsOf 3) = [c2] := by rw [intCellsF]; rfl
  have e3 : ([c0, c1, c2, c3].drop 3).take (Tryz.prog.cellsOf 3) = [c3] := by rw [intCellsF]; rfl
  have h0' : DataW.trod enc Tryz.prog w base spare held m 3 (([c0, c1, c2, c3].drop 0).take (Tryz.prog.cellsOf 3)) = some y0 := h0
  have h1' : DataW.trod enc Tryz.prog w base spare held m 3 (([c0, c1, c2, c3].drop 1).take (Tryz.prog.cellsOf 3)) = some y1 := h1
  have h2' : DataW.trod enc Tryz.prog w base spare held m 3 (([c0, c1, c2, c3].drop 2).take (Tryz.prog.cellsOf 3)) = some y2 := h2
  have h3' : DataW.trod enc Tryz.prog w base spare held m 3 (([c0, c1, c2, c3].drop 3).take (Tryz.prog.cellsOf 3)) = some y3 := h3
  rw [e0] at h0'
  rw [e1] at h1'
  rw [e2] at h2'
  rw [e3] at h3'
  obtain ⟨z0, rfl⟩ := int_trod9 h0'
  obtain ⟨z1, rfl⟩ := int_trod9 h1'
  obtain ⟨z2, rfl⟩ := int_trod9 h2'
  obtain ⟨z3, rfl⟩ := int_trod9 h3'
  exact ⟨⟨z0, z1, z2, z3⟩, hat 0 (by omega), hat 1 (by omega), hat 2 (by omega), hat 3 (by omega)⟩

set_option maxRecDepth 100000 in
theorem atts_open {H : Type} {enc : TypeId × Value → H} {w : World} {b0 base : Nat} {held : Bool} {v : Value} {d : DataW H} {p : List MemPlace} {spare : Nat → Bool}
    (hv : Value.okWide Tryz.prog w .any b0 22 v) (h : DataW.Trod enc Tryz.prog w base spare held 22 v d p) : ∃ rs : List At4, AtsAt w v rs := by
  obtain ⟨a, len, cap, rfl⟩ := okWide_slice Tryz.underlying22 hv
  obtain ⟨fuel, hf⟩ := h
  rcases DataW.trod_slice Tryz.underlying22 hf with ⟨hcs, -⟩ | ⟨x, l, c, elems, rest, n, -, hcs, -, hb, hl, hm, hlen, hel, -, -⟩
  · simp [Value.cells] at hcs
    obtain ⟨rfl, rfl, rfl⟩ := hcs
    exact ⟨[], .inl ⟨rfl, rfl⟩⟩
  · simp [Value.cells] at hcs
    obtain ⟨rfl, rfl, rfl⟩ := hcs
    simp only [Value.okWide, Tryz.underlying22, Cell.okWide, Cell.ok] at hv
    obtain ⟨-, -, -, hspot, row, cells, hshape, -⟩ := hv
    obtain ⟨b, off, sp⟩ := x
    simp only at hspot hshape
    subst hspot
    have hlt : b < w.heap.size := by
      rcases Nat.lt_or_ge b w.heap.size with h' | h'
      · exact h'
      · unfold World.shape? at hshape
        rw [Array.getElem?_eq_none h'] at hshape
        simp at hshape
    have key2 : ∀ i, ∃ x : At4, i < len → w.cell? ⟨b, off + i * 4, none⟩ = some (.int .i64 x.f) ∧ w.cell? ⟨b, off + i * 4 + 1, none⟩ = some (.int .i64 x.t) ∧ w.cell? ⟨b, off + i * 4 + 2, none⟩ = some (.int .i64 x.s) ∧ w.cell? ⟨b, off + i * 4 + 3, none⟩ = some (.int .i64 x.k) := fun i => by
      by_cases hi : i < len
      · have h1 := hel i hi
        rw [attCellsF, List.getElem?_eq_getElem (by omega)] at h1
        obtain ⟨x, h2, h3, h4, h5⟩ := att_cells h1
        rw [add_plain, add_plain] at h2 h3 h4 h5
        exact ⟨x, fun _ => ⟨h2, h3, h4, h5⟩⟩
      · exact ⟨⟨0, 0, 0, 0⟩, fun h => absurd h hi⟩
    have hlen' : ((List.range len).map fun i => Classical.choose (key2 i)).length = len := by simp
    refine ⟨(List.range len).map fun i => Classical.choose (key2 i), .inr ⟨b, off, cap, by rw [hlen'], by rw [hlen']; exact hl, hm, hlt, fun i hi => ?_⟩⟩
    have hi' := hi
    rw [hlen'] at hi'
    have e : ((List.range len).map fun i => Classical.choose (key2 i))[i] = Classical.choose (key2 i) := by simp
    rw [e]
    exact Classical.choose_spec (key2 i) hi'
end Go.Proofs.YtplkkkkcmfgkfaaGreat
