/- A raw list of ints that came in, also an empty one: its address is plain and its block lies. -/
import Derived.Test.YtihmdnbeonefcaaDoorFrame
import Derived.Test.YtihmdnbeonefcaaDoorG0A
namespace Go.Proofs.YtihmdnbeonefcaaDoor
set_option linter.unusedVariables false
set_option linter.unusedSimpArgs false
open Go.ChangeShapes Go.WideShapes Go.ChangeAt Go.RowKit

theorem il_of_row {w : World} {b0 : Nat} {a : Option Addr} {len cap : Nat} {zs : List Int} (hv : Value.okWide Tryd.prog w .any b0 22 (.slice a len cap)) (h : IsRow w a len cap zs) : IL w (.slice a len cap) (zs.take len) := by
  rcases h with ⟨rfl, rfl, rfl, rfl⟩ | ⟨x, rfl, h1, h2, h3, h4, h5⟩
  · exact .inl ⟨rfl, rfl⟩
  · simp only [Value.okWide, Tryd.underlying22, Cell.okWide, Cell.ok] at hv
    obtain ⟨-, -, -, hspot, row, cells, hshape, -⟩ := hv
    obtain ⟨b, off, sp⟩ := x
    simp only at hspot hshape
    subst hspot
    have hlt : b < w.heap.size := by
      rcases Nat.lt_or_ge b w.heap.size with h' | h'
      · exact h'
      · unfold World.shape? at hshape
        rw [Array.getElem?_eq_none h'] at hshape
        simp at hshape
    have hl : (zs.take len).length = len := by rw [List.length_take]; omega
    refine .inr ⟨b, off, cap, by rw [hl], by omega, h2, hlt, fun i hi => ?_⟩
    have hc := h4 i (by omega)
    rw [add_plain] at hc
    rw [List.getElem_take]
    rw [hc, List.getD_eq_getElem?_getD, List.getElem?_eq_getElem (by omega)]
    rfl
end Go.Proofs.YtihmdnbeonefcaaDoor
