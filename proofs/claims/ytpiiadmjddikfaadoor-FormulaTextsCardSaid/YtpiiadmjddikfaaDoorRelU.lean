/- Steps and relations for regions of XRelM, in the class of worlds that grow. -/
import Derived.Test.YtpiiadmjddikfaaDoorRelM
import Derived.Test.YtpiiadmjddikfaaDoorRelT
namespace Go.Proofs.YtpiiadmjddikfaaDoor.Own
set_option linter.unusedVariables false
set_option linter.unusedSimpArgs false
open Go Go.RowKit

/-- A relation; its value's block is nobody's business. -/
def rA (r : Value → World → Prop) : RelO := ⟨r, false⟩
/-- A relation; the value's block is made here. -/
def rO (r : Value → World → Prop) : RelO := ⟨r, true⟩
def isVal (x : Value) : Value → World → Prop := fun v _ => v = x
theorem isVal_up (x : Value) : GoesUp (isVal x) := fun _ _ _ _ h => h
/-- An empty formula in a box of its own, from block L on. -/
def isBox (L : Nat) : Value → World → Prop := fun v w => ∃ nb : Nat, v = .pointer (some ⟨nb, 0, none⟩) ∧ L ≤ nb ∧ w.heap[nb]? = some (.cells #[.int .i64 0, .string ⟨#[]⟩, .slice none 0 0] 24 (0, 0))
theorem isBox_up (L : Nat) : GoesUp (isBox L) := fun _ _ _ hg ⟨nb, h1, h2, h3⟩ => ⟨nb, h1, h2, blk_kept h3 hg⟩

theorem stableO_nil (C : World → Prop) : Stable C Grows (relTab []) := ⟨fun _ _ h => Below.size h, fun s r h => by cases h⟩
theorem stableO_cons {C : World → Prop} {t : Nat} {r : RelO} {l : List (Nat × RelO)} (hr : GoesUp r.rel) (h : Stable C Grows (relTab l)) : Stable C Grows (relTab ((t, r) :: l)) := by
  refine ⟨h.1, fun s r' hs => ?_⟩
  unfold relTab at hs
  split at hs
  · injection hs with hs
    subst hs
    exact fun v w w' _ _ hg hv => hr v w w' hg hv
  · exact h.2 s r' hs

/-- A callee's contract, in the walk. -/
theorem callA {P : Program} {f : FuncId} {args : Array Value} {W w : World} {r : Value → World → Prop} (hC : Ext W w) (h : Calls P f args w fun e w' => ∃ u, e = .returned u ∧ r u w' ∧ Below w.heap.size w w') :
    Calls P f args w fun e w'' => ∃ u, e = .returned u ∧ Ext W w'' ∧ Grows w w'' ∧ relR (rA r) w u w'' :=
  h.mono fun _ _ ⟨u, he, hr, hb⟩ => ⟨u, he, hC.grown hb, hb, hr, fun h => by cases h⟩
/-- .. of one that gives one value and leaves the world alone. -/
theorem callV {P : Program} {f : FuncId} {args : Array Value} {W w : World} {x : Value} (hC : Ext W w) (h : Calls P f args w fun e w' => e = .returned x ∧ w' = w) :
    Calls P f args w fun e w'' => ∃ u, e = .returned u ∧ Ext W w'' ∧ Grows w w'' ∧ relR (rA (isVal x)) w u w'' :=
  h.mono fun _ _ ⟨he, hw⟩ => ⟨x, he, by rw [hw]; exact hC, by rw [hw]; exact Below.refl _ _, rfl, fun h => by cases h⟩
/-- An empty box is made. -/
theorem boxO {W w : World} {L : Nat} (hC : Ext W w) (hL : L ≤ W.heap.size) : Ext W (w.alloc (.cells #[.int .i64 0, .string ⟨#[]⟩, .slice none 0 0] 24)) ∧ Grows w (w.alloc (.cells #[.int .i64 0, .string ⟨#[]⟩, .slice none 0 0] 24)) ∧
    relR (rO (isBox L)) w (.pointer (some ⟨w.heap.size, 0, none⟩)) (w.alloc (.cells #[.int .i64 0, .string ⟨#[]⟩, .slice none 0 0] 24)) :=
  ⟨hC.grown (Grows.alloc _ _), Grows.alloc _ _, ⟨_, rfl, Nat.le_trans hL (Below.size hC), heap_alloc_new _ _⟩, fun _ b hb => by
    injection hb with hb
    subst hb
    exact ⟨Nat.le_refl _, by simp⟩⟩
theorem apart_ptr {a b : Nat} (h : apartV (.pointer (some ⟨a, 0, none⟩)) (.pointer (some ⟨b, 0, none⟩))) : a ≠ b := fun e => h a rfl (by rw [e]; rfl)
theorem set_blk3 {w : World} {nb : Nat} {x y z x' y' z' : Value} {t : TypeId} (h : w.heap[nb]? = some (.cells #[x, y, z] t (0, 0))) : (((w.setCell ⟨nb, 0, none⟩ x').setCell ⟨nb, 1, none⟩ y').setCell ⟨nb, 2, none⟩ z').heap[nb]? = some (.cells #[x', y', z'] t (0, 0)) := by
  rw [setCell_heap_self (setCell_heap_self (setCell_heap_self h _) _) _]
  rfl
end Go.Proofs.YtpiiadmjddikfaaDoor.Own
