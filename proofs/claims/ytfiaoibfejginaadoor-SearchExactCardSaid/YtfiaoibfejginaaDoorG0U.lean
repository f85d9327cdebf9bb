/- Steps and relations for regions of XRelN, in the class of worlds that grow. -/
import Derived.Test.YtfiaoibfejginaaDoorRelN
import Derived.Test.YtfiaoibfejginaaDoorRelS
import Derived.Test.YtfiaoibfejginaaDoorG0A
namespace Go.Proofs.YtfiaoibfejginaaDoor.Own
set_option linter.unusedVariables false
set_option linter.unusedSimpArgs false
open Go Go.RowKit

/-- A relation; its value's block is nobody's business. -/
def rA (r : Value → World → Prop) : RelO := ⟨r, false⟩
/-- A relation; the value's block is made here. -/
def rO (r : Value → World → Prop) : RelO := ⟨r, true⟩
def isVal (x : Value) : Value → World → Prop := fun v _ => v = x
theorem isVal_up (x : Value) : GoesUp (isVal x) := fun _ _ _ _ h => h
theorem stableO_nil (C : World → Prop) : Stable C Grows (relTab []) := ⟨fun _ _ h => Below.size h, fun s r h => by cases h⟩
theorem stableO_cons {C : World → Prop} {t : Nat} {r : RelO} {l : List (Nat × RelO)} (hr : GoesUp r.rel) (h : Stable C Grows (relTab l)) : Stable C Grows (relTab ((t, r) :: l)) := by
  refine ⟨h.1, fun s r' hs => ?_⟩
  unfold relTab at hs
  split at hs
  · injection hs with hs
    subst hs
    exact fun v w w' _ _ hg hv => hr v w w' hg hv
  · exact h.2 s r' hs

/-- A callee's contract, in the walk. -/
theorem callA {P : Program} {f : FuncId} {args : Array Value} {W w : World} {r : Value → World → Prop} (hC : Ext W w) (h : Calls P f args w fun e w' => ∃ u, e = .returned u ∧ r u w' ∧ Below w.heap.size w w') :
    Calls P f args w fun e w'' => ∃ u, e = .returned u ∧ Ext W w'' ∧ Grows w w'' ∧ relR (rA r) w u w'' :=
  h.mono fun _ _ ⟨u, he, hr, hb⟩ => ⟨u, he, hC.grown hb, hb, hr, fun h => by cases h⟩
/-- A row of one element in a block of its own, with these cells. -/
def isBlk (cs : Array Value) (t : TypeId) : Value → World → Prop := fun v w => ∃ nb : Nat, v = .slice (some ⟨nb, 0, none⟩) 1 1 ∧ w.heap[nb]? = some (.cells cs t (0, 0))
theorem isBlk_up (cs : Array Value) (t : TypeId) : GoesUp (isBlk cs t) := fun _ _ _ hg ⟨nb, h1, h2⟩ => ⟨nb, h1, blk_kept2 h2 hg⟩
theorem blkA {W w : World} (hC : Ext W w) (cs : Array Value) (t : TypeId) : Ext W (w.alloc (.cells cs t)) ∧ Grows w (w.alloc (.cells cs t)) ∧ relR (rA (isBlk cs t)) w (.slice (some ⟨w.heap.size, 0, none⟩) 1 1) (w.alloc (.cells cs t)) :=
  ⟨hC.grown (bgrow w _), bgrow w _, ⟨_, rfl, heap_alloc_new _ _⟩, fun h => by cases h⟩
end Go.Proofs.YtfiaoibfejginaaDoor.Own
