/- Steps of the walk of XRel, whatever the program; a table of relations. -/
import Derived.Test.YtfiaoibfejginaaDoorRel
import Derived.Test.YtfiaoibfejginaaDoorIn
namespace Go.Proofs.YtfiaoibfejginaaDoor
set_option linter.unusedVariables false
set_option linter.unusedSimpArgs false
open Go Go.RowKit

section
variable {P : Program} {ops : Array Oper} {C : World → Prop} {G : World → World → Prop} {R : Tmp → Option (Value → World → Prop)} {E : (Tmp → Prop) → Act → Prop} {o : Oper} {rest : List Oper} {F : Tmp → Prop} {a : Act}
theorem walkR_skip (hw : Region.wanted o (yielded ops a.tmps) = false) (h : walkR P ops C G R E rest F (a.put o.dst undef)) : walkR P ops C G R E (o :: rest) F a :=
  ⟨fun h1 => (by rw [hw] at h1; cases h1), fun _ => h⟩
theorem walkR_plain {t : Tmp} (hw : Region.wanted o (yielded ops a.tmps) = true) (hd : o.dst = some t) (hr : R t = none) {x : Value} (hx : ∀ w, C w → Leans ops R F o a w → plainUpon x w ((execOp a.eval o).run P w)) (h : walkR P ops C G R E rest F (a.put (some t) x)) : walkR P ops C G R E (o :: rest) F a := by
  refine ⟨fun _ => ?_, fun h1 => by rw [hw] at h1; cases h1⟩
  unfold opDo
  simp only [hd, hr]
  exact ⟨x, hx, h⟩
theorem walkR_move {t : Tmp} {x : Operand} (hw : Region.wanted o (yielded ops a.tmps) = true) (hd : o.dst = some t) (ho : o.op = .move x) (hr : R t = none) (h : walkR P ops C G R E rest F (a.put (some t) (a.eval x))) : walkR P ops C G R E (o :: rest) F a :=
  walkR_plain hw hd hr (fun w _ _ => by rw [BigFrame.run_move x ho]; exact ⟨rfl, rfl⟩) h
theorem walkR_assign {t : Tmp} {x : Operand} (hw : Region.wanted o (yielded ops a.tmps) = true) (hd : o.dst = some t) (ho : o.op = .assign x) (hr : R t = none) (h : walkR P ops C G R E rest F (a.put (some t) (a.eval x))) : walkR P ops C G R E (o :: rest) F a :=
  walkR_plain hw hd hr (fun w _ _ => by rw [BigFrame.run_assign x ho]; exact ⟨rfl, rfl⟩) h
theorem walkR_rel {t : Tmp} {r : Value → World → Prop} (hw : Region.wanted o (yielded ops a.tmps) = true) (hd : o.dst = some t) (hr : R t = some r) (ht : t < a.tmps.size) (hx : ∀ w, C w → Leans ops R F o a w → relUpon P C G r w ((execOp a.eval o).run P w))
    (h : ∀ v, (∃ w, C w ∧ r v w) → walkR P ops C G R E rest (more F t) (a.put (some t) v)) : walkR P ops C G R E (o :: rest) F a := by
  refine ⟨fun _ => ?_, fun h1 => by rw [hw] at h1; cases h1⟩
  unfold opDo
  simp only [hd, hr]
  refine ⟨ht, hx, fun v ⟨w, hC, hK⟩ => h v ⟨w, hC, ?_⟩⟩
  have := hK t (.inl rfl) r hr
  rwa [eval_put_self a t v ht] at this
theorem Leans.get {w : World} (h : Leans ops R F o a w) (t : Tmp) (hF : F t) (hc : (o.looksAt ops).contains t = true) {r : Value → World → Prop} (hr : R t = some r) {v : Value} (hv : a.eval (.tmp t) = v) : r v w := by
  subst hv
  exact h t hF (by simpa using hc) r hr
end

/-- The table of relations. -/
def relTab : List (Nat × (Value → World → Prop)) → Tmp → Option (Value → World → Prop)
  | [], _ => none
  | (t, r) :: l, s => match Nat.beq s t with
    | true => some r
    | false => relTab l s

/-- Nothing that lies turns. -/
def Grows (w w' : World) : Prop := Below w.heap.size w w'
def GoesUp (r : Value → World → Prop) : Prop := ∀ v w w', Grows w w' → r v w → r v w'
theorem stable_nil (C : World → Prop) : Stable C Grows (relTab []) := fun s r h => by cases h
theorem stable_cons {C : World → Prop} {t : Nat} {r : Value → World → Prop} {l : List (Nat × (Value → World → Prop))} (hr : GoesUp r) (h : Stable C Grows (relTab l)) : Stable C Grows (relTab ((t, r) :: l)) := by
  intro s r' hs
  unfold relTab at hs
  split at hs
  · injection hs with hs
    subst hs
    exact fun v w w' _ _ hg hv => hr v w w' hg hv
  · exact h s r' hs

def isB (b : Bool) : Value → World → Prop := fun v _ => v = .bool b
theorem isB_up (b : Bool) : GoesUp (isB b) := fun _ _ _ _ h => h
theorem Ext.grown {W w w' : World} (h : Ext W w) (hg : Grows w w') : Ext W w' := Below.trans h (Below.mono hg (Below.size h))
theorem Grows.alloc (w : World) (o : Obj) : Grows w (w.alloc o) := (Below.refl _ _).alloc (Nat.le_refl _) o

/-- A callee's contract, in the walk. -/
theorem rel_call {P : Program} {f : FuncId} {args : Array Value} {W w : World} {r : Value → World → Prop} (hC : Ext W w) (h : Calls P f args w fun e w' => ∃ u, e = .returned u ∧ r u w' ∧ Below w.heap.size w w') :
    Calls P f args w fun e w'' => ∃ u, e = .returned u ∧ Ext W w'' ∧ Grows w w'' ∧ r u w'' :=
  h.mono fun _ _ ⟨u, he, hr, hb⟩ => ⟨u, he, hC.grown hb, hb, hr⟩
theorem ext_cell {W w : World} {b o : Nat} {v : Value} (h : W.cell? ⟨b, o, none⟩ = some v) (hl : b < W.heap.size) (hC : Ext W w) : w.cell? ⟨b, o, none⟩ = some v := (Below.cell (p := ⟨b, o, none⟩) hC hl).trans h
end Go.Proofs.YtfiaoibfejginaaDoor
