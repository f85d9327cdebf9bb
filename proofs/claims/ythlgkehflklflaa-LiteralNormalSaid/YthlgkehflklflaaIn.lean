/- A region that draws its order, in a class of worlds: one walk in the order of the text serves every order, where each operation leaves the world alone or is a call that gives one value and leaves a world of the class. -/
import Derived.BigQuiet
namespace Go.Proofs.Ythlgkehflklflaa
open Go

/-- A world of the class D. -/
structure In (D : World → Prop) where
  w : World
  h : D w

theorem wp_region_in {P : Program} (D : World → Prop) {id : Nat} {Q : Exit → Act → World → Prop} {a : Act} {w : World} {l : List Oper} (hm : P.follows .mixedOrders = true) (hB : Region.lexB .any l.toArray = true) (hD : D w.drew)
    (h : wpQuiet P l.toArray (fun w' => ∃ x : In D, w' = x.w) (fun a' => ∀ w', (∃ x : In D, w' = x.w) → Q .normal a' w') l a) : (Code.region id l.toArray true).wp P Q a w :=
  wp_region_quiet (C := fun w' => ∃ x : In D, w' = x.w) hm hB ⟨⟨_, hD⟩, rfl⟩ (by simpa using h)

/-- A callee's contract, met in a world of the class. -/
theorem Calls.in_of {P : Program} {f : FuncId} {args : Array Value} {D : World → Prop} {x : In D} {v : Value}
    (h : Calls P f args x.w fun e w' => e = .returned v ∧ D w') : Calls P f args x.w fun e w'' => e = .returned v ∧ ∃ y : In D, w'' = y.w :=
  h.mono fun _ w' ⟨he, hw⟩ => ⟨he, ⟨w', hw⟩, rfl⟩
end Go.Proofs.Ythlgkehflklflaa
