/- A list of literals that came in, as the walks are told of it. -/
import Derived.Test.YtbldlngblmegfaaFrameL
import Derived.Test.YtbldlngblmegfaaConsW
import Derived.ChangeSame
namespace Go.Proofs.Ytbldlngblmegfaa
open Go.ChangeShapes Go.WideShapes Go.ChangeAt Go.RowKit Go.Joins

theorem two_of_len {α : Type} : ∀ (cs : List α), cs.length = 2 → ∃ a b, cs = [a, b]
  | [a, b], _ => ⟨a, b, rfl⟩

theorem lit_cells {H : Type} {enc : TypeId × Value → H} {w : World} {base : Nat} {spare : Nat → Bool} {held : Bool} {n : Nat} {x : Addr} {y : DataW H × List MemPlace}
    (h : (w.cells? base x 2).bind (DataW.trod enc Try.prog w base spare held n 23) = some y) : ∃ (g : Bool) (s : ByteArray), w.cell? (x.add 0) = some (.bool g) ∧ w.cell? (x.add 1) = some (.string s) ∧ s.size ≤ maxLen := by
  obtain ⟨cs, hc, ht⟩ := Option.bind_eq_some_iff.1 h
  obtain ⟨-, hl, hat⟩ := World.cells?_some hc
  obtain ⟨y0, y1, m, -, -, h0, h1⟩ := trod_struct2 Try.underlying23 ht
  obtain ⟨c0, c1, rfl⟩ := two_of_len cs hl
  have e0 : ([c0, c1].drop 0).take (Try.prog.cellsOf 4) = [c0] := by rw [show Try.prog.cellsOf 4 = 1 by kernel_rfl]; rfl
  have e1 : ([c0, c1].drop 1).take (Try.prog.cellsOf 9) = [c1] := by rw [show Try.prog.cellsOf 9 = 1 by kernel_rfl]; rfl
  have h0' : DataW.trod enc Try.prog w base spare held m 4 (([c0, c1].drop 0).take (Try.prog.cellsOf 4)) = some y0 := h0
  have h1' : DataW.trod enc Try.prog w base spare held m 9 (([c0, c1].drop 1).take (Try.prog.cellsOf 9)) = some y1 := h1
  rw [e0] at h0'
  rw [e1] at h1'
  obtain ⟨g, hg, -⟩ := DataW.trod_bool Try.underlying4 h0'
  obtain ⟨s, hs, -, hsz⟩ := DataW.trod_string Try.underlying9 h1'
  simp only [List.cons.injEq, and_true] at hg hs
  subst hg hs
  exact ⟨g, s, hat 0 (by omega), hat 1 (by omega), hsz⟩

theorem lits_open {H : Type} {enc : TypeId × Value → H} {w : World} {b0 base : Nat} {held : Bool} {v : Value} {d : DataW H} {p : List MemPlace} {spare : Nat → Bool}
    (hv : Value.okWide Try.prog w .any b0 29 v) (h : DataW.Trod enc Try.prog w base spare held 29 v d p) : ∃ rs : List Lt, LitsAt w v rs ∧ Short rs := by
  obtain ⟨a, len, cap, rfl⟩ := okWide_slice Try.underlying29 hv
  obtain ⟨fuel, hf⟩ := h
  rcases DataW.trod_slice Try.underlying29 hf with ⟨hcs, -⟩ | ⟨x, l, c, elems, rest, n, -, hcs, -, hb, hl, hm, hlen, hel, -, -⟩
  · simp [Value.cells] at hcs
    obtain ⟨rfl, rfl, rfl⟩ := hcs
    exact ⟨[], .inl ⟨rfl, rfl⟩, fun x hx => by cases hx⟩
  · simp [Value.cells] at hcs
    obtain ⟨rfl, rfl, rfl⟩ := hcs
    simp only [Value.okWide, Try.underlying29, Cell.okWide, Cell.ok] at hv
    obtain ⟨-, -, -, hspot, row, cells, hshape, -⟩ := hv
    obtain ⟨b, off, sp⟩ := x
    simp only at hspot hshape
    subst hspot
    have hlt : b < w.heap.size := by
      rcases Nat.lt_or_ge b w.heap.size with h' | h'
      · exact h'
      · unfold World.shape? at hshape
        rw [Array.getElem?_eq_none h'] at hshape
        simp at hshape
    have hC : Try.prog.cellsOf 23 = 2 := litCellsF
    have key : ∀ i, i < len → ∃ (g : Bool) (s : ByteArray), w.cell? ⟨b, off + i * 2, none⟩ = some (.bool g) ∧ w.cell? ⟨b, off + i * 2 + 1, none⟩ = some (.string s) ∧ s.size ≤ maxLen := fun i hi => by
      have h1 := hel i hi
      rw [hC, List.getElem?_eq_getElem (by omega)] at h1
      obtain ⟨g, s, h2, h3, h4⟩ := lit_cells h1
      rw [add_plain, add_plain] at h2 h3
      exact ⟨g, s, h2, h3, h4⟩
    have key2 : ∀ i, ∃ x : Lt, i < len → w.cell? ⟨b, off + i * 2, none⟩ = some (.bool x.neg) ∧ w.cell? ⟨b, off + i * 2 + 1, none⟩ = some (.string x.name) ∧ x.name.size ≤ maxLen := fun i => by
      by_cases hi : i < len
      · obtain ⟨g, s, h1, h2, h3⟩ := key i hi
        exact ⟨⟨g, s⟩, fun _ => ⟨h1, h2, h3⟩⟩
      · exact ⟨default, fun h => absurd h hi⟩
    have hlen' : ((List.range len).map fun i => Classical.choose (key2 i)).length = len := by simp
    refine ⟨(List.range len).map fun i => Classical.choose (key2 i), .inr ⟨b, off, cap, by rw [hlen'], by rw [hlen']; exact hl, hm, hlt, fun i hi => ?_⟩, fun x hx => ?_⟩
    · rw [hlen'] at hi
      have e : ((List.range len).map fun i => Classical.choose (key2 i))[i]! = Classical.choose (key2 i) := by
        rw [getElem!_pos _ i (by rw [hlen']; exact hi)]
        simp
      rw [e]
      obtain ⟨h1, h2, -⟩ := Classical.choose_spec (key2 i) hi
      exact ⟨h1, h2⟩
    · obtain ⟨i, hi, rfl⟩ := List.mem_map.1 hx
      exact (Classical.choose_spec (key2 i) (by simpa using hi)).2.2
end Go.Proofs.Ytbldlngblmegfaa
