/- A literal, a list of literals that came in, as the walks are told of them. -/
import Derived.Test.YtiffcdhiejmbdaaGreatDoorZ1Open5

namespace Go.Proofs.YtiffcdhiejmbdaaGreatDoor
set_option linter.unusedVariables false
set_option linter.unusedSimpArgs false
open Go.ChangeShapes Go.WideShapes Go.ChangeAt Go.RowKit Go.Joins

set_option maxRecDepth 100000 in
theorem lit_open {H : Type} {enc : TypeId × Value → H} {w : World} {r : Reach} {b0 base : Nat} {spare : Nat → Bool} {held : Bool} {v : Value} {d : DataW H} {p : List MemPlace}
    (hv : Value.okWide Tryz.prog w r b0 28 v) (h : DataW.Trod enc Tryz.prog w base spare held 28 v d p) : ∃ (g : Bool) (s : ByteArray), v = .agg #[.bool g, .string s] ∧ s.size ≤ maxLen := by
  obtain ⟨fuel, hf⟩ := h
  simp only [Value.okWide, Tryz.underlying28] at hv
  obtain ⟨cs, rfl, -, -⟩ := hv
  obtain ⟨l⟩ := cs
  simp only [Value.cells] at hf
  obtain ⟨x, hx, hs⟩ := lit_trod hf
  exact ⟨x.neg, x.name, by rw [hx], hs⟩
set_option maxRecDepth 100000 in
theorem lits_open {H : Type} {enc : TypeId × Value → H} {w : World} {base : Nat} {spare : Nat → Bool} {held : Bool} {v : Value} {d : DataW H} {p : List MemPlace}
    (hv : ∃ (a : Option Addr) (n c : Nat), v = .slice a n c) (h : DataW.Trod enc Tryz.prog w base spare held 56 v d p) : ∃ xs : List Lt, BodyAt w v xs ∧ ∀ x ∈ xs, x.name.size ≤ maxLen := by
  obtain ⟨fuel, hf⟩ := h
  obtain ⟨a, n, c, rfl⟩ := hv
  exact body_open (v := .slice a n c) hf
end Go.Proofs.YtiffcdhiejmbdaaGreatDoor
