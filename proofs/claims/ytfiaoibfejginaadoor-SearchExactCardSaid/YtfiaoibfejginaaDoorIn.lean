/- A region that draws its order, in a class of worlds: one walk in the order of the text serves every order, where each operation leaves the world alone or is a call that gives one value and leaves a world of the class. -/
import Derived.BigQuiet
import Derived.WalkKit
namespace Go.Proofs.YtfiaoibfejginaaDoor
set_option linter.unusedVariables false
set_option linter.unusedSimpArgs false
open Go Go.RowKit

/-- A world of the class D. -/
structure In (D : World → Prop) where
  w : World
  h : D w

theorem wp_region_in {P : Program} (D : World → Prop) {id : Nat} {Q : Exit → Act → World → Prop} {a : Act} {w : World} {l : List Oper} (hm : P.follows .mixedOrders = true) (hB : Region.lexB .any l.toArray = true) (hD : D w.drew)
    (h : wpQuiet P l.toArray (fun w' => ∃ x : In D, w' = x.w) (fun a' => ∀ w', (∃ x : In D, w' = x.w) → Q .normal a' w') l a) : (Code.region id l.toArray true).wp P Q a w :=
  wp_region_quiet (C := fun w' => ∃ x : In D, w' = x.w) hm hB ⟨⟨_, hD⟩, rfl⟩ (by simpa using h)

/-- A callee's contract, met in a world of the class. -/
theorem Calls.in_of {P : Program} {f : FuncId} {args : Array Value} {D : World → Prop} {x : In D} {v : Value}
    (h : Calls P f args x.w fun e w' => e = .returned v ∧ D w') : Calls P f args x.w fun e w'' => e = .returned v ∧ ∃ y : In D, w'' = y.w :=
  h.mono fun _ w' ⟨he, hw⟩ => ⟨he, ⟨w', hw⟩, rfl⟩

/-- The worlds that come of W by making memory alone. -/
def Ext (W : World) : World → Prop := fun w' => Below W.heap.size W w'
theorem Ext.start (W : World) : Ext W W.drew := (Below.refl _ _).drew
theorem Ext.nonempty (W : World) : Nonempty (In (Ext W)) := ⟨⟨_, Ext.start W⟩⟩
theorem Ext.cell {W : World} {b o : Nat} {v : Value} (h : W.cell? ⟨b, o, none⟩ = some v) (y : In (Ext W)) : y.w.cell? ⟨b, o, none⟩ = some v :=
  (Below.cell (p := ⟨b, o, none⟩) y.h (World.block_lt_of_cell? W ⟨b, o, none⟩ h)).trans h
theorem Ext.call {P : Program} {f : FuncId} {args : Array Value} {W : World} {x : In (Ext W)} {v : Value}
    (h : Calls P f args x.w fun e w' => e = .returned v ∧ Below x.w.heap.size x.w w') : Calls P f args x.w fun e w'' => e = .returned v ∧ ∃ y : In (Ext W), w'' = y.w :=
  h.mono fun _ w' ⟨he, hw⟩ => ⟨he, ⟨w', Below.trans x.h (hw.mono (Below.size x.h))⟩, rfl⟩
end Go.Proofs.YtfiaoibfejginaaDoor
