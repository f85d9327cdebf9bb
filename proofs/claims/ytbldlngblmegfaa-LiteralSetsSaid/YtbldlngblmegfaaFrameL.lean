/- What the rows' proofs share: a literal that came in, as the walks are told of it. -/
import Derived.Test.YtbldlngblmegfaaFrame
import Derived.Lib.SmallJoins
namespace Go.Proofs.Ytbldlngblmegfaa
open Go.ChangeShapes Go.WideShapes Go.ChangeAt Go.RowKit Go.Joins

theorem litCellsF : Try.prog.cellsOf 23 = 2 := by kernel_rfl

theorem lit_open {H : Type} {enc : TypeId × Value → H} {w : World} {r : Reach} {b0 base : Nat} {spare : Nat → Bool} {held : Bool} {v : Value} {d : DataW H} {p : List MemPlace}
    (hv : Value.okWide Try.prog w r b0 23 v) (h : DataW.Trod enc Try.prog w base spare held 23 v d p) : ∃ (g : Bool) (s : ByteArray), v = .agg #[.bool g, .string s] ∧ s.size ≤ maxLen := by
  obtain ⟨c0, c1, y0, y1, m, rfl, _, _, h0, h1⟩ := open_agg2 Try.underlying23 (by kernel_rfl) litCellsF hv h
  obtain ⟨g, e0, _⟩ := DataW.trod_bool Try.underlying4 h0
  obtain ⟨s, e1, _, hs⟩ := DataW.trod_string Try.underlying9 h1
  simp only [List.cons.injEq, and_true] at e0 e1
  exact ⟨g, s, by rw [e0, e1], hs⟩
end Go.Proofs.Ytbldlngblmegfaa
