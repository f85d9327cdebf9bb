/- As XRel, with one thing more: of temporaries that are marked 'own' it is known besides that no two of them have one block. A region that draws its order, whose operations may give values that hang on the order (new memory's addresses): each such value is known by a relation of its own, laid ahead; one walk in the order of the text serves every order. An operation may lean on the relations of those temporaries alone that it looks at. A region that draws its order and ends in operations that follow each other, each of which waits for all before it (stores): all before those go by relations (XRelD), those are carried out behind them, in the world that they leave. Steps and relations for regions of XRelM, in the class of worlds that grow. The call that chooses one of some strings (package keep). The theory of a set has the set's worlds as models. Forgetting an atom, as bits; substituting a constant for it. The reference's halves of a set of worlds; when two theories are the same: the plain mathematics. The reference's Valid, has, count, All, half. The reference's half and pair. The reference's theory. The reference's Theory. What the laws of package world share: short, odd, keep.Set, a vocabulary that the call owns. keep.SpoiltFormula: lists of formulas that it copies and appends to; what it leaves. -/
import Derived.BigQuiet
import Derived.WalkKit
import Derived.Sort.Walk0
import Derived.Lib.Strings
import Derived.Test.YtilkpjcbmllgmaaGreatDoorPvA
import Derived.Test.YtilkpjcbmllgmaaGreatDoorPvB
import Derived.Test.YtilkpjcbmllgmaaGreatDoorPvC
import Derived.Test.YtilkpjcbmllgmaaGreatDoorPvD

namespace Go.Proofs.YtilkpjcbmllgmaaGreatDoor.Own
set_option linter.unusedVariables false
set_option linter.unusedSimpArgs false
open Go

/-- A relation; is the value's block one that the operation makes? -/
structure RelO where
  rel : Value → World → Prop
  own : Bool
/-- The block of a pointer or a slice. -/
def vblk : Value → Option Nat
  | .pointer (some a) => some a.block
  | .slice (some a) _ _ => some a.block
  | _ => none
def newV (v : Value) (w w' : World) : Prop := ∀ b, vblk v = some b → w.heap.size ≤ b ∧ b < w'.heap.size
def inV (v : Value) (w : World) : Prop := ∀ b, vblk v = some b → b < w.heap.size
def apartV (x y : Value) : Prop := ∀ b, vblk x = some b → vblk y ≠ some b
def relR (r : RelO) (w : World) (u : Value) (w' : World) : Prop := r.rel u w' ∧ (r.own = true → newV u w w')

section
variable (P : Program) (ops : Array Oper) (C : World → Prop) (G : World → World → Prop) (R : Tmp → Option RelO)

/-- What is known of the frame's temporaries in the set F, in the world w. -/
def Knows (F : Tmp → Prop) (a : Act) (w : World) : Prop := (∀ s, F s → ∀ r, R s = some r → r.rel (a.eval (.tmp s)) w ∧ (r.own = true → inV (a.eval (.tmp s)) w)) ∧
  ∀ s t, F s → F t → s ≠ t → ∀ r q, R s = some r → R t = some q → r.own = true → q.own = true → apartV (a.eval (.tmp s)) (a.eval (.tmp t))
/-- What the operation may lean on. -/
def Leans (F : Tmp → Prop) (o : Oper) (a : Act) (w : World) : Prop := ∀ s, F s → s ∈ o.looksAt ops → ∀ r, R s = some r → r.rel (a.eval (.tmp s)) w
def KnownTo (F : Tmp → Prop) (a : Act) : Prop := ∃ w, C w ∧ Knows R F a w
def more (F : Tmp → Prop) (t : Tmp) : Tmp → Prop := fun s => s = t ∨ F s

def relUpon (r : RelO) (w : World) : Result Next → Prop
  | .ok (.value u) w' => C w' ∧ G w w' ∧ relR r w u w'
  | .ok .skip w' => C w' ∧ G w w' ∧ relR r w undef w'
  | .ok (.enter f args) w' => Calls P f args w' fun e w'' => ∃ u, e = .returned u ∧ C w'' ∧ G w w'' ∧ relR r w u w''
  | _ => False
def plainUpon (x : Value) (w : World) : Result Next → Prop
  | .ok (.value u) w' => w' = w ∧ u = x
  | .ok .skip w' => w' = w ∧ undef = x
  | _ => False

def opRel (r : RelO) (F : Tmp → Prop) (o : Oper) (a : Act) : Prop := ∀ w, C w → Leans ops R F o a w → relUpon P C G r w ((execOp a.eval o).run P w)
def opPlain (x : Value) (F : Tmp → Prop) (o : Oper) (a : Act) : Prop := ∀ w, C w → Leans ops R F o a w → plainUpon x w ((execOp a.eval o).run P w)

/-- One operation that is carried out; what follows is asked of K. -/
def opDo (o : Oper) (K : (Tmp → Prop) → Act → Prop) (F : Tmp → Prop) (a : Act) : Prop :=
  match o.dst with
  | none => opRel P ops C G R ⟨fun _ _ => True, false⟩ F o a ∧ K F a
  | some t => match R t with
    | none => ∃ x, opPlain P ops C R x F o a ∧ K F (a.put (some t) x)
    | some r => t < a.tmps.size ∧ opRel P ops C G R r F o a ∧ ∀ v, KnownTo C R (more F t) (a.put (some t) v) → K (more F t) (a.put (some t) v)
def opAt (o : Oper) (K : (Tmp → Prop) → Act → Prop) (F : Tmp → Prop) (a : Act) : Prop :=
  (Region.wanted o (yielded ops a.tmps) = true → opDo P ops C G R o K F a) ∧ (Region.wanted o (yielded ops a.tmps) = false → K F (a.put o.dst undef))

def anyR (md : Region.Mode) (E : (Tmp → Prop) → Act → Prop) : Nat → Array Bool → (Tmp → Prop) → Act → Prop
  | 0, listed, F, a => Region.ready md ops listed = [] ∧ E F a
  | n + 1, listed, F, a => (Region.ready md ops listed = [] → E F a) ∧ ∀ i ∈ Region.ready md ops listed, ∀ o, ops[i]? = some o → opAt P ops C G R o (anyR md E n (listed.setIfInBounds i true)) F a

/-- The walk in the order of the text. -/
def walkR (E : (Tmp → Prop) → Act → Prop) : List Oper → (Tmp → Prop) → Act → Prop
  | [], F, a => E F a
  | o :: rest, F, a => opAt P ops C G R o (walkR E rest) F a
end

section
variable {P : Program} {ops : Array Oper} {C : World → Prop} {G : World → World → Prop} {R : Tmp → Option RelO} {md : Region.Mode} {E : (Tmp → Prop) → Act → Prop}

def Stable (C : World → Prop) (G : World → World → Prop) (R : Tmp → Option RelO) : Prop := (∀ w w', G w w' → w.heap.size ≤ w'.heap.size) ∧ ∀ s r, R s = some r → ∀ v w w', C w → C w' → G w w' → r.rel v w → r.rel v w'

theorem put_size (a : Act) (d : Option Tmp) (v : Value) : (a.put d v).tmps.size = a.tmps.size := by cases d <;> simp [Act.put]
theorem eval_put_self (a : Act) (t : Tmp) (v : Value) (h : t < a.tmps.size) : (a.put (some t) v).eval (.tmp t) = v := by simp [Act.eval, Act.put, h]
theorem eval_put_ne (a : Act) {t s : Tmp} (v : Value) (h : s ≠ t) : (a.put (some t) v).eval (.tmp s) = a.eval (.tmp s) :=
  Act.eval_put fun d hd => by injection hd with hd; subst hd; intro e; injection e with e; exact h e

theorem Knows.put {F : Tmp → Prop} {a : Act} {w : World} {d : Option Tmp} {v : Value} (hf : ∀ t, d = some t → ¬ F t) : Knows R F (a.put d v) w ↔ Knows R F a w := by
  have e : ∀ s, F s → (a.put d v).eval (.tmp s) = a.eval (.tmp s) := fun s hs => Act.eval_put (fun t ht e => by injection e with e; subst e; exact hf _ ht hs)
  refine ⟨fun h => ⟨fun s hs r hr => ?_, fun s t hs ht hne r q hr hq ho hp => ?_⟩, fun h => ⟨fun s hs r hr => ?_, fun s t hs ht hne r q hr hq ho hp => ?_⟩⟩
  · have := h.1 s hs r hr
    rwa [e s hs] at this
  · have := h.2 s t hs ht hne r q hr hq ho hp
    rwa [e s hs, e t ht] at this
  · rw [e s hs]
    exact h.1 s hs r hr
  · rw [e s hs, e t ht]
    exact h.2 s t hs ht hne r q hr hq ho hp
theorem KnownTo.put {F : Tmp → Prop} {a : Act} {d : Option Tmp} {v : Value} (hf : ∀ t, d = some t → ¬ F t) : KnownTo C R F (a.put d v) ↔ KnownTo C R F a :=
  ⟨fun ⟨w, h, k⟩ => ⟨w, h, (Knows.put hf).1 k⟩, fun ⟨w, h, k⟩ => ⟨w, h, (Knows.put hf).2 k⟩⟩
theorem Knows.less {F : Tmp → Prop} {t : Tmp} {a : Act} {w : World} (h : Knows R (more F t) a w) : Knows R F a w := ⟨fun s hs => h.1 s (.inr hs), fun s t hs ht => h.2 s t (.inr hs) (.inr ht)⟩
theorem Knows.leans {F : Tmp → Prop} {o : Oper} {a : Act} {w : World} (h : Knows R F a w) : Leans ops R F o a w := fun s hs _ r hr => (h.1 s hs r hr).1
theorem Knows.made (hR : Stable C G R) {F : Tmp → Prop} {a : Act} {w w' : World} {t : Tmp} {v : Value} {r : RelO} (h : Knows R F a w) (hC : C w) (hC' : C w') (hG : G w w') (hf : ¬ F t) (ht : t < a.tmps.size) (hr : R t = some r) (hv : relR r w v w') :
    Knows R (more F t) (a.put (some t) v) w' := by
  have hne : ∀ s, F s → s ≠ t := fun s hs e => hf (e ▸ hs)
  have e : ∀ s, F s → (a.put (some t) v).eval (.tmp s) = a.eval (.tmp s) := fun s hs => eval_put_ne _ _ (hne s hs)
  have e0 := eval_put_self a t v ht
  have old : ∀ s, F s → ∀ q, R s = some q → q.own = true → r.own = true → ∀ b, vblk (a.eval (.tmp s)) = some b → vblk v ≠ some b := fun s hs q hq hp ho b hb hb' => by
    have h1 := (h.1 s hs q hq).2 hp b hb
    have h2 := (hv.2 ho b hb').1
    omega
  refine ⟨fun s hs r' hr' => ?_, fun s u hs hu hsu r1 r2 h1 h2 o1 o2 => ?_⟩
  · rcases hs with rfl | hs
    · rw [e0]
      rw [hr] at hr'
      injection hr' with hr'
      subst hr'
      exact ⟨hv.1, fun ho b hb => (hv.2 ho b hb).2⟩
    · rw [e s hs]
      have := h.1 s hs r' hr'
      exact ⟨hR.2 s r' hr' _ w w' hC hC' hG this.1, fun ho b hb => Nat.lt_of_lt_of_le (this.2 ho b hb) (hR.1 w w' hG)⟩
  · rcases hs with rfl | hs <;> rcases hu with rfl | hu
    · exact absurd rfl hsu
    · rw [e0, e u hu]
      rw [hr] at h1
      injection h1 with h1
      subst h1
      exact fun b hb hb' => old u hu r2 h2 o2 o1 b hb' hb
    · rw [e0, e s hs]
      rw [hr] at h2
      injection h2 with h2
      subst h2
      exact fun b hb hb' => old s hs r1 h1 o1 o2 b hb hb'
    · rw [e s hs, e u hu]
      exact h.2 s u hs hu hsu r1 r2 h1 h2 o1 o2
theorem Knows.grown (hR : Stable C G R) {F : Tmp → Prop} {a : Act} {w w' : World} (h : Knows R F a w) (hC : C w) (hC' : C w') (hG : G w w') : Knows R F a w' :=
  ⟨fun s hs r hr => ⟨hR.2 s r hr _ w w' hC hC' hG (h.1 s hs r hr).1, fun ho b hb => Nat.lt_of_lt_of_le ((h.1 s hs r hr).2 ho b hb) (hR.1 w w' hG)⟩, h.2⟩

/-- Some outcome of an operation. -/
theorem rel_some {r : RelO} {w : World} {x : Result Next} (h : relUpon P C G r w x) : ∃ u w', C w' ∧ G w w' ∧ relR r w u w' := by
  unfold relUpon at h
  split at h
  · exact ⟨_, _, h⟩
  · exact ⟨_, _, h⟩
  · obtain ⟨e, w', fr, ⟨u, he, hu⟩, -⟩ := h []
    exact ⟨u, w', hu⟩
  · exact h.elim

theorem plain_same {x y : Value} {w : World} {r : Result Next} (h : plainUpon x w r) (h' : plainUpon y w r) : x = y := by
  unfold plainUpon at h h'
  split at h
  · exact h.2.symm.trans h'.2
  · exact h.2.symm.trans h'.2
  · exact h.elim

/-- From every world of the class in which what is known holds. -/
theorem wpAny_of_anyR (hR : Stable C G R) {Q : Exit → Act → World → Prop} (hE : ∀ F a w, C w → Knows R F a w → E F a → Q .normal a w) (hD : ∀ (k k' : Nat) (o o' : Oper) (t : Tmp), ops[k]? = some o → ops[k']? = some o' → o.dst = some t → o'.dst = some t → k = k') :
    ∀ (n : Nat) (listed : Array Bool) (F : Tmp → Prop) (a : Act) (w : World), (∀ (k : Nat) (o : Oper) (t : Tmp), ops[k]? = some o → listed.getD k true = false → o.dst = some t → ¬ F t) → C w → Knows R F a w → anyR P ops C G R md E n listed F a → wpAny P md ops Q n listed a w
  | 0, _, F, a, w, _, hC, hK, h => ⟨h.1, hE F a w hC hK h.2⟩
  | n + 1, listed, F, a, w, hf, hC, hK, h => by
    refine ⟨fun h0 => hE F a w hC hK (h.1 h0), fun i hi => ?_⟩
    obtain ⟨hun, o, ho, -⟩ := mem_ready.1 hi
    obtain ⟨h1, h2⟩ := h.2 i hi o ho
    have hfo := hf i o
    have hf' : ∀ (k : Nat) (o' : Oper) (t : Tmp), ops[k]? = some o' → (listed.setIfInBounds i true).getD k true = false → o'.dst = some t → ¬ F t := fun k o' t hk hl ht => by
      by_cases hki : i = k
      · subst hki; exact hf i o' t hk hun ht
      · rw [getD_set_ne true hki] at hl; exact hf k o' t hk hl ht
    have hsame : ∀ d v, o.dst = d → anyR P ops C G R md E n (listed.setIfInBounds i true) F (a.put d v) → wpAny P md ops Q n (listed.setIfInBounds i true) (a.put d v) w := fun d v hd hk =>
      wpAny_of_anyR hR hE hD n _ F _ w hf' hC ((Knows.put fun t ht => hfo t ho hun (hd.trans ht)).2 hK) hk
    unfold wpOp
    simp only [ho]
    cases hw : Region.wanted o (yielded ops a.tmps)
    · simp only [Bool.false_eq_true, if_false]
      exact hsame _ _ rfl (h2 hw)
    · simp only [if_true]
      refine .inl ?_
      have h3 := h1 hw
      unfold opDo at h3
      unfold Oper.wp
      cases hd : o.dst with
      | none =>
        simp only [hd] at h3
        obtain ⟨h4, h5⟩ := h3
        have h6 := h4 w hC hK.leans
        generalize (execOp a.eval o).run P w = x at h6 ⊢
        have fin : ∀ w', C w' → G w w' → ∀ v, wpAny P md ops Q n (listed.setIfInBounds i true) (a.put o.dst v) w' := fun w' hC' hG v => by
          rw [hd]
          exact wpAny_of_anyR hR hE hD n _ F _ w' hf' hC' (hK.grown hR hC hC' hG) h5
        unfold relUpon at h6
        split at h6
        · exact fin _ h6.1 h6.2.1 _
        · exact fin _ h6.1 h6.2.1 _
        · exact h6.mono fun e w'' ⟨u, he, hC', hG, _⟩ => by subst he; exact fin _ hC' hG _
        · exact h6.elim
      | some t =>
        simp only [hd] at h3
        cases hr : R t with
        | none =>
          simp only [hr] at h3
          obtain ⟨x, h4, h5⟩ := h3
          have h6 := h4 w hC hK.leans
          generalize (execOp a.eval o).run P w = y at h6 ⊢
          have fin := hsame (some t) x hd h5
          unfold plainUpon at h6
          split at h6
          · obtain ⟨rfl, rfl⟩ := h6
            show wpAny P md ops Q n _ (a.put o.dst _) _
            rw [hd]; exact fin
          · obtain ⟨rfl, rfl⟩ := h6
            show wpAny P md ops Q n _ (a.put o.dst _) _
            rw [hd]; exact fin
          · exact h6.elim
        | some r =>
          simp only [hr] at h3
          obtain ⟨hlt, h4, h5⟩ := h3
          have h6 := h4 w hC hK.leans
          generalize (execOp a.eval o).run P w = y at h6 ⊢
          have fin : ∀ w' v, C w' → G w w' → relR r w v w' → wpAny P md ops Q n (listed.setIfInBounds i true) (a.put o.dst v) w' := fun w' v hC' hG hv => by
            have hk := hK.made hR hC hC' hG (hfo t ho hun hd) hlt hr hv
            rw [hd]
            refine wpAny_of_anyR hR hE hD n _ (more F t) _ w' (fun k o' t' hk' hl ht' => ?_) hC' hk (h5 v ⟨w', hC', hk⟩)
            rintro (rfl | hF)
            · obtain rfl : k = i := hD k i o' o _ hk' ho ht' hd
              have : k < listed.size := by
                rcases Nat.lt_or_ge k listed.size with h' | h'
                · exact h'
                · simp [Array.getElem?_eq_none h'] at hun
              simp [this] at hl
            · exact hf' k o' t' hk' hl ht' hF
          unfold relUpon at h6
          split at h6
          · exact fin _ _ h6.1 h6.2.1 h6.2.2
          · exact fin _ _ h6.1 h6.2.1 h6.2.2
          · exact h6.mono fun e w'' ⟨u, he, hC', hG, hv⟩ => by subst he; exact fin _ _ hC' hG hv
          · exact h6.elim

theorem Leans.put {F : Tmp → Prop} {o : Oper} {a : Act} {w : World} {d : Option Tmp} {v : Value} (h : ∀ t, d = some t → t ∉ o.looksAt ops) : Leans ops R F o (a.put d v) w ↔ Leans ops R F o a w := by
  refine ⟨fun h1 s hs hl r hr => ?_, fun h1 s hs hl r hr => ?_⟩
  · have := h1 s hs hl r hr
    rwa [Act.eval_put (fun t ht e => by injection e with e; subst e; exact h _ ht hl)] at this
  · rw [Act.eval_put (fun t ht e => by injection e with e; subst e; exact h _ ht hl)]
    exact h1 s hs hl r hr
theorem Leans.more_iff {F : Tmp → Prop} {o : Oper} {a : Act} {w : World} {t : Tmp} (h : t ∉ o.looksAt ops) : Leans ops R (more F t) o a w ↔ Leans ops R F o a w :=
  ⟨fun h1 s hs => h1 s (.inr hs), fun h1 s hs hl => by
    rcases hs with rfl | hs
    · exact absurd hl h
    · exact h1 s hs hl⟩

variable (hsel : ∀ (j : Nat) (o : Oper) cs b, ops[j]? = some o → o.op ≠ .select cs b)

theorem opRel_put {o : Oper} {r : RelO} {F : Tmp → Prop} {a : Act} {d : Option Tmp} {v : Value} (hs : ∀ cs b, o.op ≠ .select cs b) (h : ∀ t, d = some t → t ∉ o.looksAt ops) : opRel P ops C G R r F o (a.put d v) ↔ opRel P ops C G R r F o a := by
  unfold opRel
  rw [execOp_put (ops := ops) o hs a d v h]
  exact forall_congr' fun w => forall_congr' fun _ => by rw [Leans.put h]
theorem opRel_more {o : Oper} {r : RelO} {F : Tmp → Prop} {a : Act} {t : Tmp} (h : t ∉ o.looksAt ops) : opRel P ops C G R r (more F t) o a ↔ opRel P ops C G R r F o a := by
  unfold opRel
  exact forall_congr' fun w => forall_congr' fun _ => by rw [Leans.more_iff h]
theorem opPlain_put {o : Oper} {x : Value} {F : Tmp → Prop} {a : Act} {d : Option Tmp} {v : Value} (hs : ∀ cs b, o.op ≠ .select cs b) (h : ∀ t, d = some t → t ∉ o.looksAt ops) : opPlain P ops C R x F o (a.put d v) ↔ opPlain P ops C R x F o a := by
  unfold opPlain
  rw [execOp_put (ops := ops) o hs a d v h]
  exact forall_congr' fun w => forall_congr' fun _ => by rw [Leans.put h]
theorem opPlain_more {o : Oper} {x : Value} {F : Tmp → Prop} {a : Act} {t : Tmp} (h : t ∉ o.looksAt ops) : opPlain P ops C R x (more F t) o a ↔ opPlain P ops C R x F o a := by
  unfold opPlain
  exact forall_congr' fun w => forall_congr' fun _ => by rw [Leans.more_iff h]

theorem more_comm (F : Tmp → Prop) (s t : Tmp) : more (more F s) t = more (more F t) s := by
  funext x
  exact propext ⟨fun h => by rcases h with h | h | h <;> simp [more, h], fun h => by rcases h with h | h | h <;> simp [more, h]⟩

theorem not_more {F : Tmp → Prop} {s t : Tmp} (h : ¬ F s) (hne : s ≠ t) : ¬ more F t s := fun hm => by
  rcases hm with rfl | hm
  · exact hne rfl
  · exact h hm
/-- How an operation goes: by one value (some x), or by its relation (none). -/
def Ev (P : Program) (ops : Array Oper) (C : World → Prop) (G : World → World → Prop) (R : Tmp → Option RelO) (o : Oper) (F : Tmp → Prop) (a : Act) : Option Value → Prop
  | some x => (Region.wanted o (yielded ops a.tmps) = false ∧ x = undef) ∨ (Region.wanted o (yielded ops a.tmps) = true ∧ ((o.dst = none ∧ opRel P ops C G R ⟨fun _ _ => True, false⟩ F o a ∧ x = undef) ∨ ∃ t, o.dst = some t ∧ R t = none ∧ opPlain P ops C R x F o a))
  | none => Region.wanted o (yielded ops a.tmps) = true ∧ ∃ t r, o.dst = some t ∧ R t = some r ∧ t < a.tmps.size ∧ opRel P ops C G R r F o a

theorem opAt_iff {o : Oper} {K : (Tmp → Prop) → Act → Prop} {F : Tmp → Prop} {a : Act} : opAt P ops C G R o K F a ↔
    (∃ x, Ev P ops C G R o F a (some x) ∧ K F (a.put o.dst x)) ∨ (Ev P ops C G R o F a none ∧ ∀ t, o.dst = some t → ∀ v, KnownTo C R (more F t) (a.put (some t) v) → K (more F t) (a.put (some t) v)) := by
  unfold opAt Ev
  cases hw : Region.wanted o (yielded ops a.tmps)
  · constructor
    · rintro ⟨-, h⟩
      exact .inl ⟨undef, .inl ⟨rfl, rfl⟩, h rfl⟩
    · rintro (⟨x, (⟨-, rfl⟩ | ⟨h, -⟩), hk⟩ | ⟨⟨h, -⟩, -⟩)
      · exact ⟨fun h => (by cases h), fun _ => hk⟩
      · cases h
      · cases h
  · unfold opDo
    cases hd : o.dst with
    | none =>
      constructor
      · rintro ⟨h, -⟩
        obtain ⟨h1, h2⟩ := h (by trivial)
        exact .inl ⟨undef, .inr ⟨by trivial, .inl ⟨rfl, h1, rfl⟩⟩, h2⟩
      · rintro (⟨x, (⟨h, -⟩ | ⟨-, (⟨-, h1, -⟩ | ⟨t, h, -⟩)⟩), hk⟩ | ⟨⟨-, t, r, h, -⟩, -⟩)
        · cases h
        · exact ⟨fun _ => ⟨h1, hk⟩, fun h => by cases h⟩
        · cases h
        · cases h
    | some t =>
      cases hr : R t with
      | none =>
        simp only [hr]
        constructor
        · rintro ⟨h, -⟩
          obtain ⟨x, h1, h2⟩ := h (by trivial)
          exact .inl ⟨x, .inr ⟨by trivial, .inr ⟨t, rfl, hr, h1⟩⟩, h2⟩
        · rintro (⟨x, (⟨h, -⟩ | ⟨-, (⟨h, -⟩ | ⟨t', h, hr', h1⟩)⟩), hk⟩ | ⟨⟨-, t', r, h, hr', -⟩, -⟩)
          · cases h
          · cases h
          · exact ⟨fun _ => ⟨x, h1, hk⟩, fun h => by cases h⟩
          · injection h with h
            subst h
            rw [hr] at hr'
            cases hr'
      | some r =>
        simp only [hr]
        constructor
        · rintro ⟨h, -⟩
          obtain ⟨h1, h2, h3⟩ := h (by trivial)
          refine .inr ⟨⟨by trivial, t, r, rfl, hr, h1, h2⟩, fun t' ht' => ?_⟩
          injection ht' with ht'
          subst ht'
          exact h3
        · rintro (⟨x, (⟨h, -⟩ | ⟨-, (⟨h, -⟩ | ⟨t', h, hr', h1⟩)⟩), hk⟩ | ⟨⟨-, t', r', h, hr', h1, h2⟩, h3⟩)
          · cases h
          · cases h
          · injection h with h
            subst h
            rw [hr] at hr'
            cases hr'
          · injection h with h
            subst h
            rw [hr] at hr'
            injection hr' with hr'
            subst hr'
            exact ⟨fun _ => ⟨h1, h2, h3 _ rfl⟩, fun h => by cases h⟩

theorem Ev.put {o : Oper} {F : Tmp → Prop} {a : Act} {d : Option Tmp} {v : Value} {y : Option Value} (hs : ∀ cs b, o.op ≠ .select cs b) (h : ∀ t, d = some t → t ∉ o.looksAt ops) : Ev P ops C G R o F (a.put d v) y ↔ Ev P ops C G R o F a y := by
  cases y with
  | none => simp only [Ev, wanted_put o a d v h, opRel_put hs h, put_size]
  | some x => simp only [Ev, wanted_put o a d v h, opRel_put hs h, opPlain_put hs h]
theorem Ev.more {o : Oper} {F : Tmp → Prop} {a : Act} {t : Tmp} {y : Option Value} (h : t ∉ o.looksAt ops) : Ev P ops C G R o (more F t) a y ↔ Ev P ops C G R o F a y := by
  cases y with
  | none => simp only [Ev, opRel_more h]
  | some x => simp only [Ev, opRel_more h, opPlain_more h]

theorem Ev.same {o : Oper} {F : Tmp → Prop} {a : Act} {x : Value} {y : Option Value} (hk : KnownTo C R F a) (h : Ev P ops C G R o F a (some x)) (h' : Ev P ops C G R o F a y) : y = some x := by
  obtain ⟨w, hC, hK⟩ := hk
  cases y with
  | none =>
    obtain ⟨h1, t, r, h2, h3, -⟩ := h'
    rcases h with ⟨h4, -⟩ | ⟨-, (⟨h4, -⟩ | ⟨t', h4, h5, -⟩)⟩
    · rw [h1] at h4; cases h4
    · rw [h2] at h4; cases h4
    · rw [h2] at h4
      injection h4 with h4
      subst h4
      rw [h3] at h5
      cases h5
  | some y =>
    rcases h with ⟨h1, rfl⟩ | ⟨h1, (⟨h4, -, rfl⟩ | ⟨t, h4, h5, h6⟩)⟩ <;> rcases h' with ⟨k1, rfl⟩ | ⟨k1, (⟨k4, -, rfl⟩ | ⟨t', k4, k5, k6⟩)⟩
    · rfl
    · rfl
    · rw [h1] at k1; cases k1
    · rfl
    · rfl
    · rw [h4] at k4; cases k4
    · rw [h1] at k1; cases k1
    · rw [h4] at k4; cases k4
    · rw [plain_same (h6 w hC hK.leans) (k6 w hC hK.leans)]

theorem Ev.some_value (hR : Stable C G R) {o : Oper} {F : Tmp → Prop} {a : Act} {t : Tmp} (hk : KnownTo C R F a) (hf : ¬ F t) (ht : o.dst = some t) (h : Ev P ops C G R o F a none) : ∃ v, KnownTo C R (Go.Proofs.YtilkpjcbmllgmaaGreatDoor.Own.more F t) (a.put (some t) v) := by
  obtain ⟨w, hC, hK⟩ := hk
  obtain ⟨-, t', r, h2, h3, h4, h5⟩ := h
  rw [ht] at h2
  injection h2 with h2
  subst h2
  obtain ⟨u, w', hC', hG, hu⟩ := rel_some (h5 w hC hK.leans)
  exact ⟨u, w', hC', hK.made hR hC hC' hG hf h4 h3 hu⟩

theorem opAt_mono {o : Oper} {K K' : (Tmp → Prop) → Act → Prop} {F : Tmp → Prop} {a : Act} (hk : KnownTo C R F a) (hf : ∀ t, o.dst = some t → ¬ F t)
    (h : ∀ F1 a1, KnownTo C R F1 a1 → (F1 = F ∨ ∃ t, o.dst = some t ∧ F1 = more F t) → K F1 a1 → K' F1 a1) (hh : opAt P ops C G R o K F a) : opAt P ops C G R o K' F a := by
  rw [opAt_iff] at *
  rcases hh with ⟨x, h1, h2⟩ | ⟨h1, h2⟩
  · exact .inl ⟨x, h1, h _ _ ((KnownTo.put hf).2 hk) (.inl rfl) h2⟩
  · exact .inr ⟨h1, fun t ht v hv => h _ _ hv (.inr ⟨t, ht, rfl⟩) (h2 t ht v hv)⟩

theorem opAt_some (hR : Stable C G R) {o : Oper} {K : (Tmp → Prop) → Act → Prop} {F : Tmp → Prop} {a : Act} (hk : KnownTo C R F a) (hf : ∀ t, o.dst = some t → ¬ F t) (hh : opAt P ops C G R o K F a) : ∃ F' a', K F' a' := by
  rw [opAt_iff] at hh
  rcases hh with ⟨x, h1, h2⟩ | ⟨h1, h2⟩
  · exact ⟨_, _, h2⟩
  · obtain ⟨-, t, r, ht, -⟩ := id h1
    obtain ⟨v, hv⟩ := h1.some_value hR hk (hf t ht) ht
    exact ⟨_, _, h2 t ht v hv⟩

theorem opAt_swap (hR : Stable C G R) {oi oj : Oper} {K : (Tmp → Prop) → Act → Prop} {F : Tmp → Prop} {a : Act} (hap : oi.apart ops oj = true) (hsi : ∀ cs b, oi.op ≠ .select cs b) (hsj : ∀ cs b, oj.op ≠ .select cs b)
    (hk : KnownTo C R F a) (hfi : ∀ t, oi.dst = some t → ¬ F t) (hfj : ∀ t, oj.dst = some t → ¬ F t)
    (h : opAt P ops C G R oi (fun F1 a1 => opAt P ops C G R oj K F1 a1) F a) : opAt P ops C G R oj (fun F2 a2 => opAt P ops C G R oi K F2 a2) F a := by
  obtain ⟨a1, a2, a3⟩ := Oper.apart_spec hap
  have hne : ∀ s t, oi.dst = some s → oj.dst = some t → s ≠ t := fun s t hs ht e => a2 s hs (by rw [ht, e])
  have hmi : ∀ t, oj.dst = some t → ∀ s, oi.dst = some s → ¬ more F t s := fun t ht s hs => not_more (hfi s hs) (hne s t hs ht)
  have hmj : ∀ t, oi.dst = some t → ∀ s, oj.dst = some s → ¬ more F t s := fun t ht s hs => not_more (hfj s hs) (fun e => hne t s ht hs e.symm)
  simp only [opAt_iff] at *
  rcases h with ⟨x, h1, ⟨y, h2, h3⟩ | ⟨h2, h3⟩⟩ | ⟨h1, h3⟩
  · refine .inl ⟨y, (Ev.put hsj a1).1 h2, .inl ⟨x, (Ev.put hsi a3).2 h1, ?_⟩⟩
    rw [← Act.put_comm a x y a2]
    exact h3
  · refine .inr ⟨(Ev.put hsj a1).1 h2, fun t ht v hv => .inl ⟨x, ?_, ?_⟩⟩
    · exact (Ev.more (a3 t ht)).2 ((Ev.put hsi (fun s hs => by injection hs with hs; subst hs; exact a3 _ ht)).2 h1)
    · have e := Act.put_comm a (x := oi.dst) (y := some t) x v (fun d hd => by rw [← ht]; exact a2 d hd)
      rw [← e]
      refine h3 t ht v ?_
      rw [e]
      exact (KnownTo.put (hmi t ht)).2 hv
  · obtain ⟨-, t, r, ht, -⟩ := id h1
    have e : ∀ y v, (a.put (some t) v).put oj.dst y = (a.put oj.dst y).put (some t) v := fun y v => Act.put_comm a v y (fun d hd => by injection hd with hd; subst hd; exact a2 t ht)
    obtain ⟨v0, hv0⟩ := h1.some_value hR hk (hfi t ht) ht
    have down : ∀ v z, Ev P ops C G R oj (more F t) (a.put (some t) v) z → Ev P ops C G R oj F a z := fun v z hz => (Ev.put hsj (fun s hs => by injection hs with hs; subst hs; exact a1 _ ht)).1 ((Ev.more (a1 t ht)).1 hz)
    rcases h3 t ht v0 hv0 with ⟨y0, h4, h5⟩ | ⟨h4, h5⟩
    · refine .inl ⟨y0, down _ _ h4, .inr ⟨(Ev.put hsi a3).2 h1, fun t' ht' v hv => ?_⟩⟩
      obtain rfl : t = t' := by rw [ht] at ht'; injection ht'
      rw [← e] at hv ⊢
      have hv' := (KnownTo.put (hmj t ht)).1 hv
      rcases h3 t ht v hv' with ⟨y, h6, h7⟩ | ⟨h6, h7⟩
      · have h8 := Ev.same hk (down _ _ h4) (down _ _ h6)
        injection h8 with h8
        rw [h8] at h7
        exact h7
      · have h8 := Ev.same hk (down _ _ h4) (down _ _ h6)
        cases h8
    · refine .inr ⟨down _ _ h4, fun s hs u hu => .inr ⟨?_, fun t' ht' v hv => ?_⟩⟩
      · exact (Ev.more (a3 s hs)).2 ((Ev.put hsi (fun s' hs' => by injection hs' with hs'; subst hs'; exact a3 _ hs)).2 h1)
      · obtain rfl : t = t' := by rw [ht] at ht'; injection ht'
        have e2 : (a.put (some t) v).put (some s) u = (a.put (some s) u).put (some t) v := by rw [← hs]; exact e u v
        rw [more_comm, ← e2] at hv ⊢
        have hv' : KnownTo C R (more F t) (a.put (some t) v) := by
          obtain ⟨w, hC, hK⟩ := hv
          exact ⟨w, hC, (Knows.put (d := some s) (fun s' hs' => by injection hs' with hs'; subst hs'; exact hmj t ht _ hs)).1 hK.less⟩
        rcases h3 t ht v hv' with ⟨y, h6, h7⟩ | ⟨h6, h7⟩
        · have h8 := Ev.same hk (down _ _ h6) (down _ _ h4)
          cases h8
        · exact h7 s hs u hv

theorem fresh_next (hD : ∀ (k k' : Nat) (o o' : Oper) (t : Tmp), ops[k]? = some o → ops[k']? = some o' → o.dst = some t → o'.dst = some t → k = k') {listed : Array Bool} {F F1 : Tmp → Prop} {i : Nat} {oi : Oper} (hi : ops[i]? = some oi) (hun : listed.getD i true = false)
    (hf : ∀ (k : Nat) (o : Oper) (t : Tmp), ops[k]? = some o → listed.getD k true = false → o.dst = some t → ¬ F t) (h1 : F1 = F ∨ ∃ t, oi.dst = some t ∧ F1 = more F t) :
    ∀ (k : Nat) (o : Oper) (t : Tmp), ops[k]? = some o → (listed.setIfInBounds i true).getD k true = false → o.dst = some t → ¬ F1 t := by
  intro k o t hk hl ht
  have hki : i ≠ k := fun e => by
    subst e
    have : i < listed.size := by
      rcases Nat.lt_or_ge i listed.size with h' | h'
      · exact h'
      · simp [Array.getElem?_eq_none h'] at hun
    simp [this] at hl
  rw [getD_set_ne true hki] at hl
  rcases h1 with rfl | ⟨s, hs, rfl⟩
  · exact hf k o t hk hl ht
  · exact not_more (hf k o t hk hl ht) (fun e => hki (hD i k oi o s hi hk hs (by rw [ht, e])))

theorem anyR_first (hR : Stable C G R) (hD : ∀ (k k' : Nat) (o o' : Oper) (t : Tmp), ops[k]? = some o → ops[k']? = some o' → o.dst = some t → o'.dst = some t → k = k') (hsel : ∀ (j : Nat) (o : Oper) cs b, ops[j]? = some o → o.op ≠ .select cs b) {i : Nat} {oi : Oper} (hi : ops[i]? = some oi) :
    ∀ (n : Nat) (listed : Array Bool) (F : Tmp → Prop) (a : Act),
      (∀ j oj, ops[j]? = some oj → j ≠ i → listed.getD j true = false → (∀ e ∈ oj.after, Region.binds md e = true → e.on ≠ i) → oi.apart ops oj = true) →
      i ∈ Region.ready md ops listed → (∀ (k : Nat) (o : Oper) (t : Tmp), ops[k]? = some o → listed.getD k true = false → o.dst = some t → ¬ F t) → KnownTo C R F a →
      opAt P ops C G R oi (anyR P ops C G R md E n (listed.setIfInBounds i true)) F a → anyR P ops C G R md E (n + 1) listed F a := by
  intro n
  induction n with
  | zero =>
    intro listed F a _ hr hf hk H
    have hun := (mem_ready.1 hr).1
    refine ⟨fun h => (by rw [h] at hr; cases hr), fun j hj oj hoj => ?_⟩
    by_cases hji : j = i
    · subst hji
      rw [hi] at hoj
      injection hoj with hoj
      subst hoj
      exact H
    · obtain ⟨F', a', h0, -⟩ := opAt_some hR hk (fun t ht => hf i oi t hi hun ht) H
      have := ready_mono hj hji
      rw [h0] at this
      cases this
  | succ n ih =>
    intro listed F a hfree hr hf hk H
    have hun := (mem_ready.1 hr).1
    refine ⟨fun h => (by rw [h] at hr; cases hr), fun j hj oj hoj => ?_⟩
    by_cases hji : j = i
    · subst hji
      rw [hi] at hoj
      injection hoj with hoj
      subst hoj
      exact H
    · obtain ⟨hjun, oj', hoj', hall⟩ := mem_ready.1 hj
      rw [hoj] at hoj'
      injection hoj' with hoj'
      subst hoj'
      have hnot : ∀ e ∈ oj.after, Region.binds md e = true → e.on ≠ i := fun e he hb heq => by
        have h1 := hall e he hb
        rw [heq] at h1
        rcases Nat.lt_or_ge i listed.size with h' | h'
        · simp [h'] at hun h1; rw [hun] at h1; cases h1
        · simp [Array.getElem?_eq_none h'] at h1
      have hap := hfree j oj hoj hji hjun hnot
      have hfi : ∀ t, oi.dst = some t → ¬ F t := fun t ht => hf i oi t hi hun ht
      have hfj : ∀ t, oj.dst = some t → ¬ F t := fun t ht => hf j oj t hoj hjun ht
      have h1 := opAt_swap hR (K := anyR P ops C G R md E n ((listed.setIfInBounds i true).setIfInBounds j true)) hap (fun cs b => hsel i oi cs b hi) (fun cs b => hsel j oj cs b hoj) hk hfi hfj
        (opAt_mono hk hfi (fun F1 a1 _ _ h2 => h2.2 j (ready_mono hj hji) oj hoj) H)
      refine opAt_mono hk hfj (fun F1 a1 hk1 hF1 h2 => ?_) h1
      rw [Array.setIfInBounds_comm _ _ (Ne.symm hji)] at h2
      refine ih (listed.setIfInBounds j true) F1 a1 (fun k ok hok hki hun' hno => ?_) (ready_mono hr (Ne.symm hji)) (fresh_next hD hoj hjun hf hF1) hk1 h2
      refine hfree k ok hok hki ?_ hno
      by_cases hjk : j = k
      · subst hjk; exact hjun
      · rw [getD_set_ne true hjk] at hun'; exact hun'

theorem walkR_any (hR : Stable C G R) (hD : ∀ (k k' : Nat) (o o' : Oper) (t : Tmp), ops[k]? = some o → ops[k']? = some o' → o.dst = some t → o'.dst = some t → k = k') (hs : Region.noSelect ops = true) :
    ∀ (l : List Oper) (k : Nat) (listed : Array Bool) (F : Tmp → Prop) (a : Act), (∀ j, l[j]? = ops[k + j]?) → Region.lexFrom md ops l.length k listed = true →
      (∀ (k : Nat) (o : Oper) (t : Tmp), ops[k]? = some o → listed.getD k true = false → o.dst = some t → ¬ F t) → KnownTo C R F a → walkR P ops C G R E l F a → anyR P ops C G R md E l.length listed F a
  | [], _, _, _, _, _, hB, _, _, h => ⟨by simpa [Region.lexFrom] using hB, h⟩
  | o :: l, k, listed, F, a, hl, hB, hf, hk, h => by
    have h0 : ops[k]? = some o := by simpa using (hl 0).symm
    simp only [List.length_cons, Region.lexFrom, Bool.and_eq_true] at hB
    obtain ⟨⟨hr, hfr⟩, hB'⟩ := hB
    have hr' : k ∈ Region.ready md ops listed := by simpa using hr
    have hun := (mem_ready.1 hr').1
    refine anyR_first hR hD (Region.noSelect_spec hs) h0 l.length listed F a (Region.free_spec h0 hfr) hr' hf hk ?_
    refine opAt_mono hk (fun t ht => hf k o t h0 hun ht) (fun F1 a1 hk1 hF1 h2 => ?_) (show opAt P ops C G R o (walkR P ops C G R E l) F a from h)
    exact walkR_any hR hD hs l (k + 1) _ F1 a1 (fun j => by have := hl (j + 1); simpa [Nat.add_assoc, Nat.add_comm 1 j] using this) hB' (fresh_next hD h0 hun hf hF1) hk1 h2

/-- No two operations write one temporary. -/
def apartDst (l : List Oper) : Bool := (List.range l.length).all fun k => (List.range l.length).all fun k' => k == k' || match (l[k]?).bind (·.dst), (l[k']?).bind (·.dst) with
  | some s, some t => s != t
  | _, _ => true
theorem apartDst_spec {l : List Oper} (h : apartDst l = true) (k k' : Nat) (o o' : Oper) (t : Tmp) (ho : l.toArray[k]? = some o) (ho' : l.toArray[k']? = some o') (hd : o.dst = some t) (hd' : o'.dst = some t) : k = k' := by
  simp only [List.getElem?_toArray] at ho ho'
  have hk : k < l.length := (List.getElem?_eq_some_iff.1 ho).1
  have hk' : k' < l.length := (List.getElem?_eq_some_iff.1 ho').1
  simp only [apartDst, List.all_eq_true, List.mem_range] at h
  have h1 := h k hk k' hk'
  rw [ho, ho'] at h1
  simp only [Option.bind_some, hd, hd', bne_self_eq_false, Bool.or_false, beq_iff_eq] at h1
  exact h1

/-- **A region whose operations are written out, in a class of worlds, with relations.** -/
theorem wp_region_rel {P : Program} (C : World → Prop) (G : World → World → Prop) (R : Tmp → Option RelO) {id : Nat} {Q : Exit → Act → World → Prop} {a : Act} {w : World} {l : List Oper}
    (hm : P.follows .mixedOrders = true) (hB : Region.lexB .any l.toArray = true) (hA : apartDst l = true) (hR : Stable C G R) (hC : C w.drew)
    (h : walkR P l.toArray C G R (fun F a' => ∀ w', C w' → Knows R F a' w' → Q .normal a' w') l (fun _ => False) a) : (Code.region id l.toArray true).wp P Q a w := by
  simp only [Region.lexB, Bool.and_eq_true] at hB
  have hD := apartDst_spec hA
  have hk : ∀ w, Knows R (fun _ => False) a w := fun w => ⟨fun s hs => hs.elim, fun s t hs => hs.elim⟩
  refine wp_region_any hm (wpAny_of_anyR hR (E := fun F a' => ∀ w', C w' → Knows R F a' w' → Q .normal a' w') (fun F a w hC hK h => h w hC hK) hD _ _ (fun _ => False) a _ (fun _ _ _ _ _ _ h => h) hC (hk _) ?_)
  have := walkR_any (md := .any) hR hD hB.1 l 0 (Array.replicate l.toArray.size false) (fun _ => False) a (by simp) (by simpa using hB.2) (fun _ _ _ _ _ _ h => h) ⟨_, hC, hk _⟩ h
  simpa using this
end
end Go.Proofs.YtilkpjcbmllgmaaGreatDoor.Own

namespace Go.Proofs.YtilkpjcbmllgmaaGreatDoor.Own
set_option linter.unusedVariables false
set_option linter.unusedSimpArgs false
open Go

/-- The operation made idle: it waits for what it waited for, and does nothing. -/
def idle (o : Oper) : Oper := { o with op := .move (.const (.bool true)) }
/-- All from number m on are idle. -/
def idleTail : Nat → List Oper → List Oper
  | _, [] => []
  | 0, o :: l => idle o :: idleTail 0 l
  | m + 1, o :: l => o :: idleTail m l

theorem idleTail_get : ∀ (m : Nat) (l : List Oper) (j : Nat), (idleTail m l)[j]? = if m ≤ j then (l[j]?).map idle else l[j]?
  | m, [], j => by cases m <;> simp [idleTail]
  | 0, o :: l, j => by
    cases j with
    | zero => rfl
    | succ j =>
      show (idleTail 0 l)[j]? = _
      rw [idleTail_get 0 l j]
      simp
  | m + 1, o :: l, j => by
    cases j with
    | zero => simp [idleTail]
    | succ j =>
      show (idleTail m l)[j]? = _
      rw [idleTail_get m l j]
      simp
theorem idleTail_len (m : Nat) (l : List Oper) : (idleTail m l).length = l.length := by
  induction l generalizing m with
  | nil => cases m <;> rfl
  | cons o l ih => cases m <;> simp [idleTail, ih]

/-- Each operation before number m is waited for by a later one, up to m; none waits for a later one; each behind m waits for the one before it. -/
def tailB (m : Nat) (ops : Array Oper) : Bool :=
  ((List.range m).all fun j => (List.range (m + 1)).any fun k => decide (j < k) && ((ops[k]?).map fun o => o.after.any fun e => Region.binds .any e && e.on == j).getD false) &&
  (((List.range ops.size).all fun k => ((ops[k]?).map fun o => o.after.all fun e => !Region.binds .any e || decide (e.on < k)).getD true) &&
  ((List.range ops.size).all fun k => decide (k ≤ m) || ((ops[k]?).map fun o => o.after.any fun e => Region.binds .any e && e.on + 1 == k).getD false))

def Closed (ops : Array Oper) (listed : Array Bool) : Prop := listed.size = ops.size ∧ ∀ (i : Nat) (o : Oper), ops[i]? = some o → listed.getD i false = true → ∀ e ∈ o.after, Region.binds .any e = true → listed.getD e.on false = true

theorem getD_false_true {listed : Array Bool} {j : Nat} (hj : j < listed.size) : listed.getD j true = listed.getD j false := by simp [hj]

theorem Closed.set {ops : Array Oper} {listed : Array Bool} (h : Closed ops listed) {i : Nat} (hi : i ∈ Region.ready .any ops listed) : Closed ops (listed.setIfInBounds i true) := by
  obtain ⟨hun, o, ho, hall⟩ := mem_ready.1 hi
  have up : ∀ j, listed.getD j false = true → (listed.setIfInBounds i true).getD j false = true := fun j hj => by
    by_cases e : i = j
    · subst e
      have : i < listed.size := by
        rcases Nat.lt_or_ge i listed.size with h' | h'
        · exact h'
        · simp [Array.getElem?_eq_none h'] at hun
      simp [this]
    · rw [getD_set_ne false e]
      exact hj
  refine ⟨by simpa using h.1, fun k ok hok hk e he hb => ?_⟩
  by_cases e' : i = k
  · subst e'
    rw [ho] at hok
    injection hok with hok
    subst hok
    exact up _ (hall e he hb)
  · rw [getD_set_ne false e'] at hk
    exact up _ (h.2 k ok hok hk e he hb)

theorem all_listed {m : Nat} {ops : Array Oper} (hB : tailB m ops = true) (hm : m < ops.size) {listed : Array Bool} (h : Closed ops listed) (hr : m ∈ Region.ready .any ops listed) : ∀ j, j < m → listed.getD j false = true := by
  unfold tailB at hB
  rw [Bool.and_eq_true] at hB
  have h1 := List.all_eq_true.1 hB.1
  obtain ⟨hun, o, ho, hall⟩ := mem_ready.1 hr
  have key : ∀ d j, j + 1 + d = m + 1 → j < m → listed.getD j false = true := by
    intro d
    induction d using Nat.strongRecOn with
    | _ d ih =>
      intro j hd hj
      have h2 := h1 j (List.mem_range.2 hj)
      obtain ⟨k, hk, h3⟩ := List.any_eq_true.1 h2
      rw [List.mem_range] at hk
      rw [Bool.and_eq_true, decide_eq_true_eq] at h3
      obtain ⟨hjk, h4⟩ := h3
      cases ho' : ops[k]? with
      | none => rw [ho'] at h4; cases h4
      | some o' =>
        rw [ho'] at h4
        simp only [Option.map_some, Option.getD_some, Array.any_eq_true] at h4
        obtain ⟨q, hq, h5⟩ := h4
        rw [Bool.and_eq_true, beq_iff_eq] at h5
        have hmem := Array.getElem_mem hq
        by_cases e : k = m
        · subst e
          rw [ho] at ho'
          injection ho' with ho'
          subst ho'
          rw [← h5.2]
          exact hall _ hmem h5.1
        · have h6 := ih (m + 1 - (k + 1)) (by omega) k (by omega) (by omega)
          rw [← h5.2]
          exact h.2 k o' ho' h6 _ hmem h5.1
  exact fun j hj => key (m + 1 - (j + 1)) j (by omega) hj

theorem earlier {m : Nat} {ops : Array Oper} (hB : tailB m ops = true) {k : Nat} {o : Oper} (ho : ops[k]? = some o) : ∀ e ∈ o.after, Region.binds .any e = true → e.on < k := fun e he hb => by
  unfold tailB at hB
  rw [Bool.and_eq_true, Bool.and_eq_true] at hB
  have hk : k < ops.size := (Array.getElem?_eq_some_iff.1 ho).1
  have h3 := List.all_eq_true.1 hB.2.1 k (List.mem_range.2 hk)
  rw [ho] at h3
  simp only [Option.map_some, Option.getD_some] at h3
  have h4 := Array.all_eq_true_iff_forall_mem.1 h3 e he
  rw [hb] at h4
  simpa using h4
theorem waits {m : Nat} {ops : Array Oper} (hB : tailB m ops = true) {k : Nat} {o : Oper} (ho : ops[k]? = some o) (hk : m < k) : ∃ e ∈ o.after, Region.binds .any e = true ∧ e.on + 1 = k := by
  unfold tailB at hB
  rw [Bool.and_eq_true, Bool.and_eq_true] at hB
  have hks : k < ops.size := (Array.getElem?_eq_some_iff.1 ho).1
  have h3 := List.all_eq_true.1 hB.2.2 k (List.mem_range.2 hks)
  rw [ho, decide_eq_false (by omega), Bool.false_or] at h3
  simp only [Option.map_some, Option.getD_some, Array.any_eq_true] at h3
  obtain ⟨q, hq, h5⟩ := h3
  rw [Bool.and_eq_true, beq_iff_eq] at h5
  exact ⟨_, Array.getElem_mem hq, h5.1, h5.2⟩

theorem ready_nonempty {m : Nat} {ops : Array Oper} (hB : tailB m ops = true) {listed : Array Bool} (hs : listed.size = ops.size) {k : Nat} (hk : k < ops.size) (hun : listed.getD k true = false) : Region.ready .any ops listed ≠ [] := by
  have key : ∀ k, k < ops.size → listed.getD k true = false → ∃ m, m ∈ Region.ready .any ops listed := by
    intro k
    induction k using Nat.strongRecOn with
    | _ k ih =>
      intro hk hun
      by_cases hr : k ∈ Region.ready .any ops listed
      · exact ⟨k, hr⟩
      · have ho : ops[k]? = some ops[k] := Array.getElem?_eq_getElem hk
        have h2 : ¬ ∀ e ∈ ops[k].after, Region.binds .any e = true → listed.getD e.on false = true := fun hall => hr (mem_ready.2 ⟨hun, _, ho, hall⟩)
        simp only [Classical.not_forall] at h2
        obtain ⟨e, he, hb, hne⟩ := h2
        have hlt := earlier hB ho e he hb
        exact ih e.on hlt (by omega) (by rw [getD_false_true (by omega)]; simpa using hne)
  obtain ⟨m, hm⟩ := key k hk hun
  intro h0
  rw [h0] at hm
  cases hm

/-- All before k are listed, none from k on. -/
def Upto (ops : Array Oper) (k : Nat) (listed : Array Bool) : Prop := listed.size = ops.size ∧ (∀ j, j < k → listed.getD j false = true) ∧ ∀ j, k ≤ j → j < ops.size → listed.getD j true = false
theorem Upto.next {ops : Array Oper} {k : Nat} {listed : Array Bool} (h : Upto ops k listed) (hk : k < ops.size) : Upto ops (k + 1) (listed.setIfInBounds k true) := by
  obtain ⟨hs, h1, h2⟩ := h
  refine ⟨by simpa using hs, fun j hj => ?_, fun j hj hjs => ?_⟩
  · by_cases e : k = j
    · subst e
      have : k < listed.size := by omega
      simp [this]
    · rw [getD_set_ne false e]
      exact h1 j (by omega)
  · rw [getD_set_ne true (by omega)]
    exact h2 j (by omega) hjs
theorem Upto.ready {m : Nat} {ops : Array Oper} (hB : tailB m ops = true) {k : Nat} {listed : Array Bool} (h : Upto ops k listed) (hmk : m < k) {i : Nat} (hi : i ∈ Region.ready .any ops listed) : i = k := by
  obtain ⟨hun, o, ho, hall⟩ := mem_ready.1 hi
  have his : i < ops.size := (Array.getElem?_eq_some_iff.1 ho).1
  have hsz := h.1
  have h1 : k ≤ i := by
    rcases Nat.lt_or_ge i k with h' | h'
    · have h2 := h.2.1 i h'
      rw [← getD_false_true (by omega)] at h2
      rw [h2] at hun
      cases hun
    · exact h'
  rcases Nat.lt_or_ge k i with h' | h'
  · obtain ⟨e, he, hb, hon⟩ := waits hB ho (by omega)
    have h2 := hall e he hb
    have h3 := h.2.2 e.on (by omega) (by omega)
    rw [getD_false_true (by omega), h2] at h3
    cases h3
  · omega
theorem Upto.isReady {m : Nat} {ops : Array Oper} (hB : tailB m ops = true) {k : Nat} {listed : Array Bool} (h : Upto ops k listed) (hk : k < ops.size) : k ∈ Region.ready .any ops listed :=
  mem_ready.2 ⟨h.2.2 k (Nat.le_refl _) hk, _, Array.getElem?_eq_getElem hk, fun e he hb => h.2.1 e.on (earlier hB (Array.getElem?_eq_getElem hk) e he hb)⟩

/-- What is asked behind all operations before number m. -/
def tailQ (P : Program) (ops : Array Oper) (l : List Oper) (Q : Exit → Act → World → Prop) : Exit → Act → World → Prop
  | .normal, a, w => wpList P ops Q l a w
  | e, a, w => Q e a w

theorem wp_tail {P : Program} {ops : Array Oper} {l : List Oper} {p : Oper} {Q : Exit → Act → World → Prop} {a : Act} {w : World} {K K' : Act → World → Prop} (hK : ∀ a w, K a w → K' a w) (h : p.wp P a w K (tailQ P ops l Q)) : p.wp P a w K' Q := by
  unfold Oper.wp at *
  generalize (execOp a.eval p).run P w = x at *
  unfold Oper.upon at *
  split at h
  · exact hK _ _ h
  · exact hK _ _ h
  · exact hK _ _ h
  · refine h.mono fun e w' h' => ?_
    cases e with
    | returned v => exact hK _ _ h'
    | panicked c => exact h'
    | outgrown => exact h'
  · exact h.mono fun v w' h' => hK _ _ h'
  · exact h
  · exact h.elim

section
variable {P : Program} {l : List Oper} {m : Nat} {Q : Exit → Act → World → Prop}

theorem ready_idle (listed : Array Bool) : Region.ready .any (idleTail m l).toArray listed = Region.ready .any l.toArray listed := by
  unfold Region.ready
  have e : (idleTail m l).toArray.size = l.toArray.size := by simp [idleTail_len]
  rw [e]
  refine List.filter_congr fun i hi => ?_
  have : (((idleTail m l).toArray)[i]?).map (·.after) = (l.toArray[i]?).map (·.after) := by
    simp only [List.getElem?_toArray, idleTail_get]
    split
    · cases l[i]? <;> rfl
    · rfl
  congr 1
  cases h1 : (idleTail m l).toArray[i]? with
  | none =>
    rw [h1] at this
    cases h2 : l.toArray[i]? with
    | none => rfl
    | some x => rw [h2] at this; cases this
  | some y =>
    rw [h1] at this
    cases h2 : l.toArray[i]? with
    | none => rw [h2] at this; cases this
    | some x =>
      rw [h2] at this
      simp only [Option.map_some, Option.some.injEq] at this
      simp only [Option.map_some, Option.getD_some, this]

theorem dst_idle (i : Nat) : ((idleTail m l).toArray[i]?).bind (fun o : Oper => o.dst) = (l.toArray[i]?).bind (fun o : Oper => o.dst) := by
  simp only [List.getElem?_toArray, idleTail_get]
  split
  · cases l[i]? <;> rfl
  · rfl
theorem yielded_idle (tmps : Array Value) : yielded (idleTail m l).toArray tmps = yielded l.toArray tmps := by
  funext i
  unfold yielded
  rw [dst_idle (l := l) i]

/-- The last operations, in the real region. -/
theorem run_tail (hB : tailB m l.toArray = true) : ∀ (d k n : Nat) (listed : Array Bool) (a : Act) (w : World), k + d = l.length → m < k → Upto l.toArray k listed → d ≤ n → wpList P l.toArray Q (l.drop k) a w → wpAny P .any l.toArray Q n listed a w := by
  intro d
  induction d with
  | zero =>
    intro k n listed a w hk hm hu hn h
    have hend : Region.ready .any l.toArray listed = [] := by
      rw [List.eq_nil_iff_forall_not_mem]
      intro i hi
      obtain rfl := hu.ready hB hm hi
      obtain ⟨-, o, ho, -⟩ := mem_ready.1 hi
      have := (Array.getElem?_eq_some_iff.1 ho).1
      simp at this
      omega
    have hq : Q .normal a w := by
      rw [List.drop_of_length_le (by omega)] at h
      exact h
    cases n with
    | zero => exact ⟨hend, hq⟩
    | succ n => exact ⟨fun _ => hq, fun i hi => by rw [hend] at hi; cases hi⟩
  | succ d ih =>
    intro k n listed a w hk hm hu hn h
    cases n with
    | zero => omega
    | succ n =>
      have hks : k < l.toArray.size := by simp; omega
      refine ⟨fun h0 => (by have h9 := hu.isReady hB hks; rw [h0] at h9; cases h9), fun i hi => ?_⟩
      obtain rfl := hu.ready hB hm hi
      rw [List.drop_eq_getElem_cons (by omega)] at h
      unfold wpOp
      rw [List.getElem?_toArray, List.getElem?_eq_getElem (by omega)]
      simp only
      unfold wpList at h
      have hrec : ∀ a' w', wpList P l.toArray Q (l.drop (i + 1)) a' w' → wpAny P .any l.toArray Q n (listed.setIfInBounds i true) a' w' := fun a' w' hh =>
        ih (i + 1) n _ a' w' (by omega) (by omega) (hu.next hks) (by omega) hh
      split at h
      · rename_i hw
        rw [if_pos hw]
        rcases h with h3 | h3
        · exact .inl (Oper.wp_mono hrec h3)
        · exact .inr h3
      · rename_i hw
        rw [if_neg hw]
        exact hrec _ _ h

theorem idle_asks {a : Act} {w : World} {o : Oper} : ¬ (idle o).asks P a w := by
  intro h5
  unfold Oper.asks at h5
  have h6 : (Sem.runT P (execOp a.eval (idle o)) w #[]).snd = #[] := rfl
  rw [h6] at h5
  exact absurd h5.1 (by simp)

/-- The idle operations do nothing. -/
theorem idle_tail {Q' : Exit → Act → World → Prop} (hB : tailB m l.toArray = true) (hd : ∀ j o, m ≤ j → l[j]? = some o → o.dst = none) : ∀ (d k n : Nat) (listed : Array Bool) (a : Act) (w : World), k + d = l.length → m < k → Upto l.toArray k listed → wpAny P .any (idleTail m l).toArray Q' n listed a w → d ≤ n ∧ Q' .normal a w := by
  intro d
  induction d with
  | zero =>
    intro k n listed a w hk hm hu h
    refine ⟨Nat.zero_le _, ?_⟩
    cases n with
    | zero => exact h.2
    | succ n =>
      refine h.1 ?_
      rw [ready_idle, List.eq_nil_iff_forall_not_mem]
      intro i hi
      obtain rfl := hu.ready hB hm hi
      obtain ⟨-, o, ho, -⟩ := mem_ready.1 hi
      have := (Array.getElem?_eq_some_iff.1 ho).1
      simp at this
      omega
  | succ d ih =>
    intro k n listed a w hk hm hu h
    have hks : k < l.toArray.size := by simp; omega
    have hr := hu.isReady hB hks
    cases n with
    | zero =>
      have h1 := h.1
      rw [ready_idle] at h1
      rw [h1] at hr
      cases hr
    | succ n =>
      have h2 := h.2 k (by rw [ready_idle]; exact hr)
      have hgo : wpAny P .any (idleTail m l).toArray Q' n (listed.setIfInBounds k true) a w := by
        have hl : l[k]? = some (l[k]'(by omega)) := List.getElem?_eq_getElem (by omega)
        have hdk := hd k _ (by omega) hl
        generalize (l[k]'(by omega)) = o at hl hdk
        have hidle : (idleTail m l).toArray[k]? = some (idle o) := by
          rw [List.getElem?_toArray, idleTail_get, if_pos (by omega), hl]
          rfl
        unfold wpOp at h2
        rw [hidle] at h2
        simp only at h2
        have hput : ∀ v, a.put (idle o).dst v = a := fun v => by
          show a.put o.dst v = a
          rw [hdk]
          rfl
        split at h2
        · rcases h2 with h3 | ⟨h3, -⟩
          · have h4 : wpAny P .any (idleTail m l).toArray Q' n (listed.setIfInBounds k true) (a.put (idle o).dst (.bool true)) w := h3
            rw [hput] at h4
            exact h4
          · exact absurd h3 idle_asks
        · rw [hput] at h2
          exact h2
      obtain ⟨h3, h4⟩ := ih (k + 1) n _ a w (by omega) (by omega) (hu.next hks) hgo
      exact ⟨by omega, h4⟩

theorem wpAny_tail (hB : tailB m l.toArray = true) (hm : m < l.length) (hd : ∀ j o, m ≤ j → l[j]? = some o → o.dst = none) : ∀ (n : Nat) (listed : Array Bool) (a : Act) (w : World), Closed l.toArray listed → (∀ j, m ≤ j → j < l.length → listed.getD j true = false) →
    wpAny P .any (idleTail m l).toArray (tailQ P l.toArray (l.drop m) Q) n listed a w → wpAny P .any l.toArray Q n listed a w
  | 0, listed, a, w, hc, hun, h => by
    have h1 := h.1
    rw [ready_idle] at h1
    exact absurd h1 (ready_nonempty hB hc.1 (k := m) (by simpa using hm) (hun m (Nat.le_refl _) hm))
  | n + 1, listed, a, w, hc, hun, h => by
    refine ⟨fun h0 => absurd h0 (ready_nonempty hB hc.1 (k := m) (by simpa using hm) (hun m (Nat.le_refl _) hm)), fun i hi => ?_⟩
    have h2 := h.2 i (by rw [ready_idle]; exact hi)
    have hsz : listed.size = l.toArray.size := hc.1
    have hms : m < l.toArray.size := by simpa using hm
    rcases Nat.lt_trichotomy i m with him | rfl | him
    · have hgeti : (idleTail m l).toArray[i]? = l.toArray[i]? := by
        rw [List.getElem?_toArray, idleTail_get, if_neg (by omega), List.getElem?_toArray]
      have hrec : ∀ a' w', wpAny P .any (idleTail m l).toArray (tailQ P l.toArray (l.drop m) Q) n (listed.setIfInBounds i true) a' w' → wpAny P .any l.toArray Q n (listed.setIfInBounds i true) a' w' :=
        fun a' w' hh => wpAny_tail hB hm hd n _ a' w' (hc.set hi) (fun j h1 h2 => by rw [getD_set_ne true (by omega)]; exact hun j h1 h2) hh
      unfold wpOp at h2 ⊢
      rw [hgeti, yielded_idle] at h2
      cases ho : l.toArray[i]? with
      | none =>
        rw [ho] at h2
        exact hrec _ _ h2
      | some p =>
        rw [ho] at h2
        simp only at h2 ⊢
        split at h2
        · rename_i hw
          rw [if_pos hw]
          rcases h2 with h3 | ⟨h3, h4⟩
          · exact .inl (wp_tail hrec h3)
          · exact .inr ⟨h3, h4⟩
        · rename_i hw
          rw [if_neg hw]
          exact hrec _ _ h2
    · have hall := all_listed hB hms hc hi
      have hu : Upto l.toArray i listed := ⟨hsz, hall, fun j h1 h2 => hun j h1 (by simpa using h2)⟩
      have hl : l[i]? = some (l[i]'hm) := List.getElem?_eq_getElem hm
      have hdk := hd i _ (Nat.le_refl _) hl
      have hidle : (idleTail i l).toArray[i]? = some (idle (l[i]'hm)) := by
        rw [List.getElem?_toArray, idleTail_get, if_pos (by omega), hl]
        rfl
      have hgo : wpAny P .any (idleTail i l).toArray (tailQ P l.toArray (l.drop i) Q) n (listed.setIfInBounds i true) a w := by
        unfold wpOp at h2
        rw [hidle] at h2
        simp only at h2
        have hput : ∀ v, a.put (idle (l[i]'hm)).dst v = a := fun v => by
          show a.put (l[i]'hm).dst v = a
          rw [hdk]
          rfl
        split at h2
        · rcases h2 with h3 | ⟨h3, -⟩
          · have h4 : wpAny P .any (idleTail i l).toArray (tailQ P l.toArray (l.drop i) Q) n (listed.setIfInBounds i true) (a.put (idle (l[i]'hm)).dst (.bool true)) w := h3
            rw [hput] at h4
            exact h4
          · exact absurd h3 idle_asks
        · rw [hput] at h2
          exact h2
      obtain ⟨hn, hq⟩ := idle_tail hB hd (l.length - (i + 1)) (i + 1) n _ a w (by omega) (by omega) (hu.next hms) hgo
      have hq' : wpList P l.toArray Q (l.drop i) a w := hq
      rw [List.drop_eq_getElem_cons hm] at hq'
      unfold wpOp
      rw [List.getElem?_toArray, hl]
      simp only
      unfold wpList at hq'
      have hrec : ∀ a' w', wpList P l.toArray Q (l.drop (i + 1)) a' w' → wpAny P .any l.toArray Q n (listed.setIfInBounds i true) a' w' := fun a' w' hh =>
        run_tail hB (l.length - (i + 1)) (i + 1) n _ a' w' (by omega) (by omega) (hu.next hms) hn hh
      split at hq'
      · rename_i hw
        rw [if_pos hw]
        rcases hq' with h3 | h3
        · exact .inl (Oper.wp_mono hrec h3)
        · exact .inr h3
      · rename_i hw
        rw [if_neg hw]
        exact hrec _ _ hq'
    · obtain ⟨-, o, ho, hall⟩ := mem_ready.1 hi
      have his : i < l.length := by
        have := (Array.getElem?_eq_some_iff.1 ho).1
        simpa using this
      obtain ⟨e, he, hb, hon⟩ := waits hB ho him
      have h3 := hall e he hb
      have h4 := hun e.on (by omega) (by omega)
      rw [getD_false_true (by have : l.toArray.size = l.length := by simp
                              omega), h3] at h4
      cases h4

theorem rep_false (n i : Nat) : (Array.replicate n false).getD i false = false := by
  unfold Array.getD
  split <;> simp
theorem rep_true {n i : Nat} (h : i < n) : (Array.replicate n false).getD i true = false := by
  unfold Array.getD
  rw [dif_pos (by simpa using h)]
  simp

def tailDst (m : Nat) (l : List Oper) : Bool := (l.drop m).all fun o => o.dst.isNone

/-- **A region whose last operations, from number m on, follow each other and wait for all others.** -/
theorem wp_region_tail (m : Nat) (C : World → Prop) (G : World → World → Prop) (R : Tmp → Option RelO) {id : Nat} {a : Act} {w : World} (hml : decide (m < l.length) = true) (hd : tailDst m l = true)
    (hm : P.follows .mixedOrders = true) (hL : tailB m l.toArray = true) (hB : Region.lexB .any (idleTail m l).toArray = true) (hA : apartDst (idleTail m l) = true) (hR : Stable C G R) (hC : C w.drew)
    (h : walkR P (idleTail m l).toArray C G R (fun F a' => ∀ w', C w' → Knows R F a' w' → wpList P l.toArray Q (l.drop m) a' w') (idleTail m l) (fun _ => False) a) : (Code.region id l.toArray true).wp P Q a w := by
  simp only [Region.lexB, Bool.and_eq_true] at hB
  have hml' : m < l.length := by simpa using hml
  have hD := apartDst_spec hA
  have hk : ∀ w, Knows R (fun _ => False) a w := fun w => ⟨fun s hs => hs.elim, fun s t hs => hs.elim⟩
  refine wp_region_any hm ?_
  have hsz : l.toArray.size = (idleTail m l).toArray.size := by simp [idleTail_len]
  have hd' : ∀ j o, m ≤ j → l[j]? = some o → o.dst = none := fun j o hj ho => by
    have h1 := List.all_eq_true.1 hd o (by
      rw [List.mem_iff_getElem?]
      exact ⟨j - m, by rw [List.getElem?_drop, show m + (j - m) = j by omega]; exact ho⟩)
    simpa using h1
  refine wpAny_tail hL hml' hd' _ _ _ _ ⟨by simp, fun i o' _ hi => by rw [rep_false] at hi; cases hi⟩ (fun j _ hj => rep_true (by simpa using hj)) ?_
  rw [hsz]
  refine wpAny_of_anyR hR (E := fun F a' => ∀ w', C w' → Knows R F a' w' → wpList P l.toArray Q (l.drop m) a' w') (fun F a w hC hK h => h w hC hK) hD _ _ (fun _ => False) a _ (fun _ _ _ _ _ _ h => h) hC (hk _) ?_
  have := walkR_any (md := .any) hR hD hB.1 (idleTail m l) 0 (Array.replicate (idleTail m l).toArray.size false) (fun _ => False) a (by simp) (by simpa using hB.2) (fun _ _ _ _ _ _ h => h) ⟨_, hC, hk _⟩ h
  simpa using this
end

section
variable {P : Program} {ops : Array Oper} {C : World → Prop} {G : World → World → Prop} {R : Tmp → Option RelO} {E : (Tmp → Prop) → Act → Prop} {o : Oper} {rest : List Oper} {F : Tmp → Prop} {a : Act}
theorem walkR_idle (hd : o.dst = none) (hG : ∀ w, C w → G w w) (h : walkR P ops C G R E rest F a) : walkR P ops C G R E (idle o :: rest) F a := by
  show opAt P ops C G R (idle o) (walkR P ops C G R E rest) F a
  have hput : ∀ v, a.put (idle o).dst v = a := fun v => by show a.put o.dst v = a; rw [hd]; rfl
  refine ⟨fun _ => ?_, fun _ => by rw [hput]; exact h⟩
  unfold opDo
  have hd' : (idle o).dst = none := hd
  rw [hd']
  exact ⟨fun w hC _ => ⟨hC, hG w hC, trivial, fun h => by cases h⟩, h⟩
theorem walkR_skip (hw : Region.wanted o (yielded ops a.tmps) = false) (h : walkR P ops C G R E rest F (a.put o.dst undef)) : walkR P ops C G R E (o :: rest) F a :=
  ⟨fun h1 => (by rw [hw] at h1; cases h1), fun _ => h⟩
theorem walkR_plain {t : Tmp} (hw : Region.wanted o (yielded ops a.tmps) = true) (hd : o.dst = some t) (hr : R t = none) {x : Value} (hx : ∀ w, C w → Leans ops R F o a w → plainUpon x w ((execOp a.eval o).run P w)) (h : walkR P ops C G R E rest F (a.put (some t) x)) : walkR P ops C G R E (o :: rest) F a := by
  refine ⟨fun _ => ?_, fun h1 => by rw [hw] at h1; cases h1⟩
  unfold opDo
  simp only [hd, hr]
  exact ⟨x, hx, h⟩
theorem walkR_rel {t : Tmp} {r : RelO} (hw : Region.wanted o (yielded ops a.tmps) = true) (hd : o.dst = some t) (hr : R t = some r) (ht : t < a.tmps.size) (hx : ∀ w, C w → Leans ops R F o a w → relUpon P C G r w ((execOp a.eval o).run P w))
    (h : ∀ v, (∃ w, C w ∧ r.rel v w) → walkR P ops C G R E rest (more F t) (a.put (some t) v)) : walkR P ops C G R E (o :: rest) F a := by
  refine ⟨fun _ => ?_, fun h1 => by rw [hw] at h1; cases h1⟩
  unfold opDo
  simp only [hd, hr]
  refine ⟨ht, hx, fun v ⟨w, hC, hK⟩ => h v ⟨w, hC, ?_⟩⟩
  have := (hK.1 t (.inl rfl) r hr).1
  rwa [eval_put_self a t v ht] at this
theorem Leans.get {w : World} (h : Leans ops R F o a w) (t : Tmp) (hF : F t) (hc : (o.looksAt ops).contains t = true) {r : RelO} (hr : R t = some r) {v : Value} (hv : a.eval (.tmp t) = v) : r.rel v w := by
  subst hv
  exact h t hF (by simpa using hc) r hr
theorem Knows.get {w : World} (h : Knows R F a w) (t : Tmp) (hF : F t) {r : RelO} (hr : R t = some r) {v : Value} (hv : a.eval (.tmp t) = v) : r.rel v w := by
  subst hv
  exact (h.1 t hF r hr).1
theorem Knows.ne {w : World} (h : Knows R F a w) (s t : Tmp) (hs : F s) (ht : F t) (hne : s ≠ t) {r q : RelO} (hr : R s = some r) (hq : R t = some q) (ho : r.own = true) (hp : q.own = true) {u v : Value} (hu : a.eval (.tmp s) = u) (hv : a.eval (.tmp t) = v) : apartV u v := by
  subst hu hv
  exact h.2 s t hs ht hne r q hr hq ho hp
end

/-- The table of relations. -/
def relTab : List (Nat × RelO) → Tmp → Option RelO
  | [], _ => none
  | (t, r) :: l, s => match Nat.beq s t with
    | true => some r
    | false => relTab l s
end Go.Proofs.YtilkpjcbmllgmaaGreatDoor.Own

namespace Go.Proofs.YtilkpjcbmllgmaaGreatDoor.Own
set_option linter.unusedVariables false
set_option linter.unusedSimpArgs false
open Go Go.RowKit

/-- A relation; its value's block is nobody's business. -/
def rA (r : Value → World → Prop) : RelO := ⟨r, false⟩
/-- A relation; the value's block is made here. -/
def rO (r : Value → World → Prop) : RelO := ⟨r, true⟩
def isVal (x : Value) : Value → World → Prop := fun v _ => v = x
theorem isVal_up (x : Value) : GoesUp (isVal x) := fun _ _ _ _ h => h
/-- An empty formula in a box of its own, from block L on. -/
def isBox (L : Nat) : Value → World → Prop := fun v w => ∃ nb : Nat, v = .pointer (some ⟨nb, 0, none⟩) ∧ L ≤ nb ∧ w.heap[nb]? = some (.cells #[.int .i64 0, .string ⟨#[]⟩, .slice none 0 0] 24 (0, 0))
theorem isBox_up (L : Nat) : GoesUp (isBox L) := fun _ _ _ hg ⟨nb, h1, h2, h3⟩ => ⟨nb, h1, h2, blk_kept h3 hg⟩

theorem stableO_nil (C : World → Prop) : Stable C Grows (relTab []) := ⟨fun _ _ h => Below.size h, fun s r h => by cases h⟩
theorem stableO_cons {C : World → Prop} {t : Nat} {r : RelO} {l : List (Nat × RelO)} (hr : GoesUp r.rel) (h : Stable C Grows (relTab l)) : Stable C Grows (relTab ((t, r) :: l)) := by
  refine ⟨h.1, fun s r' hs => ?_⟩
  unfold relTab at hs
  split at hs
  · injection hs with hs
    subst hs
    exact fun v w w' _ _ hg hv => hr v w w' hg hv
  · exact h.2 s r' hs

/-- A callee's contract, in the walk. -/
theorem callA {P : Program} {f : FuncId} {args : Array Value} {W w : World} {r : Value → World → Prop} (hC : Ext W w) (h : Calls P f args w fun e w' => ∃ u, e = .returned u ∧ r u w' ∧ Below w.heap.size w w') :
    Calls P f args w fun e w'' => ∃ u, e = .returned u ∧ Ext W w'' ∧ Grows w w'' ∧ relR (rA r) w u w'' :=
  h.mono fun _ _ ⟨u, he, hr, hb⟩ => ⟨u, he, hC.grown hb, hb, hr, fun h => by cases h⟩
/-- .. of one that gives one value and leaves the world alone. -/
theorem callV {P : Program} {f : FuncId} {args : Array Value} {W w : World} {x : Value} (hC : Ext W w) (h : Calls P f args w fun e w' => e = .returned x ∧ w' = w) :
    Calls P f args w fun e w'' => ∃ u, e = .returned u ∧ Ext W w'' ∧ Grows w w'' ∧ relR (rA (isVal x)) w u w'' :=
  h.mono fun _ _ ⟨he, hw⟩ => ⟨x, he, by rw [hw]; exact hC, by rw [hw]; exact Below.refl _ _, rfl, fun h => by cases h⟩
/-- An empty box is made. -/
theorem boxO {W w : World} {L : Nat} (hC : Ext W w) (hL : L ≤ W.heap.size) : Ext W (w.alloc (.cells #[.int .i64 0, .string ⟨#[]⟩, .slice none 0 0] 24)) ∧ Grows w (w.alloc (.cells #[.int .i64 0, .string ⟨#[]⟩, .slice none 0 0] 24)) ∧
    relR (rO (isBox L)) w (.pointer (some ⟨w.heap.size, 0, none⟩)) (w.alloc (.cells #[.int .i64 0, .string ⟨#[]⟩, .slice none 0 0] 24)) :=
  ⟨hC.grown (Grows.alloc _ _), Grows.alloc _ _, ⟨_, rfl, Nat.le_trans hL (Below.size hC), heap_alloc_new _ _⟩, fun _ b hb => by
    injection hb with hb
    subst hb
    exact ⟨Nat.le_refl _, by simp⟩⟩
theorem apart_ptr {a b : Nat} (h : apartV (.pointer (some ⟨a, 0, none⟩)) (.pointer (some ⟨b, 0, none⟩))) : a ≠ b := fun e => h a rfl (by rw [e]; rfl)
theorem set_blk3 {w : World} {nb : Nat} {x y z x' y' z' : Value} {t : TypeId} (h : w.heap[nb]? = some (.cells #[x, y, z] t (0, 0))) : (((w.setCell ⟨nb, 0, none⟩ x').setCell ⟨nb, 1, none⟩ y').setCell ⟨nb, 2, none⟩ z').heap[nb]? = some (.cells #[x', y', z'] t (0, 0)) := by
  rw [setCell_heap_self (setCell_heap_self (setCell_heap_self h _) _) _]
  rfl
end Go.Proofs.YtilkpjcbmllgmaaGreatDoor.Own

namespace Go.Proofs.YtilkpjcbmllgmaaGreatDoor
set_option linter.unusedVariables false
set_option linter.unusedSimpArgs false
open Go.RowKit

/-- A list of strings that has been laid whole. -/
def strRowK (ss : List ByteArray) : Array Value := (ss.map Value.string).toArray
theorem strK_cell {w : World} {lb : Nat} {ss : List ByteArray} (h : w.heap[lb]? = some (.cells (strRowK ss) 9 (0, 0))) (m : Nat) (hm : m < ss.length) : w.cell? ⟨lb, m, none⟩ = some (.string (ss[m])) := by
  simp [World.cell?, h, strRowK, hm]

set_option maxHeartbeats 400000 in
theorem stext_any (lb : Nat) (ss : List ByteArray) (hss : 1 ≤ ss.length) (hss' : ss.length ≤ 1000) (B b : Nat) (zs : List Int) (k : Nat) (w : World) (h : SrcAt w B b zs k) (hl : w.heap[lb]? = some (.cells (strRowK ss) 9 (0, 0))) (hne : lb ≠ b) :
    Calls Tryz.prog 47 #[.pointer (some ⟨b, 0, none⟩), .slice (some ⟨lb, 0, none⟩) ss.length ss.length] w fun e w' => ∃ (s : ByteArray) (k' : Nat), e = .returned (.string s) ∧ s ∈ ss ∧ SrcAt w' B b zs k' ∧ w.grownBy w' (some b) := by
  have H := hidIt h
  have HL := hidIt hl
  clear h hl
  go_enter Tryz.func47, Tryz.ntmps47
  go_wp2_with fail
  refine (sn_nat _ (by omega) (by omega) B b zs k _ H.out).mono ?_
  rintro e w' ⟨m, k', rfl, hm, hs, hg⟩
  have hm' : m < ss.length := by omega
  have hc : w'.cell? ⟨lb, m, none⟩ = some (.string (ss[m])) := hg.cell (strK_cell HL.out m hm') (fun e => hne (by injection e))
  have HS := hidIt hs; have HG := hidIt hg; clear hs hg
  have hmem : Hid (ss[m] ∈ ss) := List.getElem_mem hm'
  generalize ss[m] = s at hc hmem
  go_wp2
  go_ret
  exact ⟨s, k', rfl, hmem.out, HS.out, HG.out⟩
end Go.Proofs.YtilkpjcbmllgmaaGreatDoor

namespace Go.Proofs.YtilkpjcbmllgmaaGreatDoor
set_option linter.unusedVariables false
set_option linter.unusedSimpArgs false
open Go Go.RowKit

theorem value_op1 {P : ByteArray → Bool} {t : Tree} (h : t.op = 1) : valueB P t = true := by
  obtain ⟨op, name, ts⟩ := t
  simp only [Tree.op_node] at h
  subst h
  simp [valueB]
theorem value_op2 {P : ByteArray → Bool} {t : Tree} (h : t.op = 2) : valueB P t = false := by
  obtain ⟨op, name, ts⟩ := t
  simp only [Tree.op_node] at h
  subst h
  simp [valueB]
theorem choice_value (P : ByteArray → Bool) (s : ByteArray) (y n : Tree) : valueB P (choiceT s y n) = if P s then valueB P y else valueB P n := by
  unfold choiceT
  split
  · rename_i h
    rw [value_op1 h.1, value_op2 h.2]
    simp [valueB]
  split
  · rename_i h
    rw [value_op1 h]
    simp only [valueB, valuesB]
    cases P s <;> simp
  split
  · rename_i h
    rw [value_op2 h.1, value_op1 h.2]
    simp only [valueB, valuesB]
    cases P s <;> simp
  split
  · rename_i h
    rw [value_op2 h]
    simp only [valueB, valuesB]
    cases P s <;> simp
  split
  · rename_i h
    rw [value_op1 h]
    simp only [valueB, valuesB]
    cases P s <;> simp
  split
  · rename_i h
    rw [value_op2 h]
    simp only [valueB, valuesB]
    cases P s <;> simp
  · simp only [valueB, valuesB]
    cases P s <;> simp

theorem thT_congr : ∀ (voc : List ByteArray) (P Q : ByteArray → Bool), (∀ s ∈ voc, P s = Q s) → ∀ S, valueB P (thT voc S) = valueB Q (thT voc S) := by
  intro voc
  induction voc with
  | nil =>
    intro P Q _ S
    unfold thT
    split <;> simp [valueB]
  | cons x rest ih =>
    intro P Q h S
    unfold thT
    have ih' := ih P Q fun s hs => h s (by simp [hs])
    split
    · simp [valueB]
    split
    · simp [valueB]
    split
    · exact ih' _
    · rw [choice_value, choice_value, h x (by simp), ih', ih']

theorem idxB_cons_ne {x s : ByteArray} {rest : List ByteArray} (h : s ≠ x) : idxB (x :: rest) s = idxB rest s + 1 := by
  unfold idxB
  rw [List.findIdx_cons]
  have : (x.data.toList == s.data.toList) = false := by
    rw [beq_eq_false_iff_ne]
    exact fun e => h (bytes_inj e).symm
  rw [this]
  rfl
theorem idxB_cons_self (x : ByteArray) (rest : List ByteArray) : idxB (x :: rest) x = 0 := by
  unfold idxB
  rw [List.findIdx_cons]
  simp

theorem value_th : ∀ (voc : List ByteArray), voc.Nodup → voc.length ≤ 6 → ∀ S, InS voc.length S → ∀ j, j < 2 ^ voc.length → valueB (atomAt voc j) (thT voc S) = S.getLsbD j := by
  intro voc
  induction voc with
  | nil =>
    intro _ _ S hS j hj
    obtain rfl : j = 0 := by simpa using hj
    unfold thT
    by_cases h0 : S = 0#64
    · rw [if_pos h0, h0]; simp [valueB]
    · rw [if_neg h0]
      have := inS_zero hS h0
      rw [this, allS, wset_bit _ 0 (by omega)]
      simp [valueB]
  | cons x rest ih =>
    intro hnd hl S hS j hj
    simp only [List.length_cons] at hl hS hj
    have hj' := hj
    rw [Nat.pow_succ] at hj'
    have h64 : 2 ^ rest.length ≤ 32 := by
      have := Nat.pow_le_pow_right (n := 2) (by omega) (show rest.length ≤ 5 by omega)
      omega
    have hnd' := (List.nodup_cons.1 hnd)
    have hcg : ∀ s ∈ rest, atomAt (x :: rest) j s = atomAt rest (j / 2) s := fun s hs => by
      unfold atomAt
      rw [idxB_cons_ne (fun e => hnd'.1 (by rw [← e]; exact hs)), Nat.testBit_succ]
    have hx : atomAt (x :: rest) j x = decide (j % 2 = 1) := by
      unfold atomAt
      rw [idxB_cons_self, Nat.testBit_zero]
    have hY : ∀ T, InS rest.length T → valueB (atomAt (x :: rest) j) (thT rest T) = T.getLsbD (j / 2) := fun T hT => by
      rw [thT_congr rest _ _ hcg T]
      exact ih hnd'.2 (by omega) T hT (j / 2) (by omega)
    have bY : (splitY S).getLsbD (j / 2) = S.getLsbD (2 * (j / 2) + 1) := by
      rw [splitY, wset_bit _ _ (by omega), splitP, decide_eq_true (by omega), Bool.true_and]
    have bN : (splitN S).getLsbD (j / 2) = S.getLsbD (2 * (j / 2) + 0) := by
      rw [splitN, wset_bit _ _ (by omega), splitP, decide_eq_true (by omega), Bool.true_and]
    unfold thT
    by_cases h0 : S = 0#64
    · rw [if_pos h0, h0]; simp [valueB]
    rw [if_neg h0]
    by_cases h1 : S = allS (rest.length + 1)
    · rw [if_pos h1, h1, allS, wset_bit _ j (by omega), decide_eq_true hj]; simp [valueB]
    rw [if_neg h1]
    by_cases h2 : splitY S = splitN S
    · rw [if_pos h2, hY _ (inS_splitY hS)]
      by_cases hp : j % 2 = 1
      · rw [bY]
        congr 1
        omega
      · rw [h2, bN]
        congr 1
        omega
    · rw [if_neg h2, choice_value, hx, hY _ (inS_splitY hS), hY _ (inS_splitN hS)]
      by_cases hp : j % 2 = 1
      · rw [decide_eq_true hp, if_pos rfl, bY]
        congr 1
        omega
      · rw [decide_eq_false hp, if_neg (by decide), bN]
        congr 1
        omega

theorem vocL_nodupF : ∀ n : Fin 7, ((vocL n.val).map fun s => s.data.toList).Nodup := by decide +kernel
theorem vocL_nodup {n : Nat} (h : n ≤ 6) : (vocL n).Nodup := by
  have := vocL_nodupF ⟨n, by omega⟩
  exact (List.Pairwise.of_map _ (fun a b h e => h (by rw [e])) this)

/-- The theory's models are the set. -/
theorem mod_th {n : Nat} (hn : n ≤ 6) (S : BitVec 64) : modM n (thT (vocL n) (S &&& allS n)) = S &&& allS n := set_ext fun j hj => by
  have hI : InS (vocL n).length (S &&& allS n) := by rw [vocL_len]; exact inS_all n S
  have hv := value_th (vocL n) (vocL_nodup hn) (by rw [vocL_len]; exact hn) (S &&& allS n) hI
  rw [vocL_len] at hv
  unfold modM
  rw [BitVec.getLsbD_and, modelsV_bit _ _ j hj]
  by_cases h : j < 2 ^ n
  · rw [hv j h, allS, wset_bit _ j hj, decide_eq_true h, Bool.and_true]
  · rw [BitVec.getLsbD_and, allS, wset_bit _ j hj, decide_eq_false h, Bool.and_false, Bool.and_false]

theorem choice_gen {n : Nat} {d : Nat} {s : ByteArray} {y z : Tree} (hs : ∃ m, m < n ∧ s = letter m) (hn : n ≤ 26) (hy : y.all (nodeG n) = true ∧ y.depth ≤ d) (hz : z.all (nodeG n) = true ∧ z.depth ≤ d) (hd : 1 ≤ d) :
    ((choiceT s y z).all (nodeG n) = true ∧ (choiceT s y z).depth ≤ d + 2) ∧ (choiceT s y z).nodes ≤ y.nodes + z.nodes + 6 := by
  obtain ⟨m, hm, rfl⟩ := hs
  have ha : (Tree.node 3 (letter m) []).all (nodeG n) = true ∧ (Tree.node 3 (letter m) []).depth ≤ 0 := ⟨gen_atom n m hm hn, Nat.le_refl _⟩
  have hna := Parts.node (n := n) (d := 0) (ts := [.node 3 (letter m) []]) (fun t ht => by rw [List.mem_singleton.1 ht]; exact ha) (op := 4) (node_good (.inl ⟨rfl, rfl⟩))
  have two : ∀ (k : Nat) (t u : Tree) (op : Int), (op = 5 ∨ op = 6) → (t.all (nodeG n) = true ∧ t.depth ≤ k) → (u.all (nodeG n) = true ∧ u.depth ≤ k) → (Tree.node op ⟨#[]⟩ [t, u]).all (nodeG n) = true ∧ (Tree.node op ⟨#[]⟩ [t, u]).depth ≤ k + 1 := fun k t u op ho h1 h2 =>
    Parts.node (n := n) (d := k) (ts := [t, u]) (fun x hx => by
      rcases List.mem_cons.1 hx with rfl | hx
      · exact h1
      · rw [List.mem_singleton.1 hx]; exact h2) (op := op) (node_good (.inr (.inl ⟨ho, by simp⟩)))
  have up : ∀ {t : Tree} {k l : Nat}, (t.all (nodeG n) = true ∧ t.depth ≤ k) → k ≤ l → (t.all (nodeG n) = true ∧ t.depth ≤ l) := fun h hk => ⟨h.1, Nat.le_trans h.2 hk⟩
  have py := y.nodes_pos
  have pz := z.nodes_pos
  unfold choiceT
  split
  · exact ⟨up ha (by omega), by simp [Tree.nodes, nodesL]⟩
  split
  · exact ⟨up (two d _ _ 6 (.inr rfl) (up ha (by omega)) hz) (by omega), by simp [Tree.nodes, nodesL]; omega⟩
  split
  · exact ⟨up hna (by omega), by simp [Tree.nodes, nodesL]⟩
  split
  · exact ⟨up (two d _ _ 5 (.inl rfl) (up hna (by omega)) hz) (by omega), by simp [Tree.nodes, nodesL]; omega⟩
  split
  · exact ⟨up (two d _ _ 6 (.inr rfl) (up hna (by omega)) hy) (by omega), by simp [Tree.nodes, nodesL]; omega⟩
  split
  · exact ⟨up (two d _ _ 5 (.inl rfl) (up ha (by omega)) hy) (by omega), by simp [Tree.nodes, nodesL]; omega⟩
  · exact ⟨two (d + 1) _ _ 6 (.inr rfl) (two d _ _ 5 (.inl rfl) (up ha (by omega)) hy) (two d _ _ 5 (.inl rfl) (up hna (by omega)) hz), by simp [Tree.nodes, nodesL]; omega⟩

theorem th_gen {n : Nat} (hn : n ≤ 26) : ∀ voc : List ByteArray, (∀ s ∈ voc, ∃ m, m < n ∧ s = letter m) → ∀ S, ((thT voc S).all (nodeG n) = true ∧ (thT voc S).depth ≤ 3 * voc.length) ∧ (thT voc S).nodes + 6 ≤ 7 * 2 ^ voc.length := by
  intro voc
  have h1 : (Tree.node 1 ⟨#[]⟩ []).all (nodeG n) = true := gen_const n 0 (by omega)
  have h2 : (Tree.node 2 ⟨#[]⟩ []).all (nodeG n) = true := gen_const n 1 (by omega)
  have leaf : ∀ (op : Int), (Tree.node op ⟨#[]⟩ []).nodes = 1 := fun op => by simp [Tree.nodes, nodesL]
  induction voc with
  | nil =>
    intro _ S
    unfold thT
    split
    · exact ⟨⟨h2, Nat.zero_le _⟩, by rw [leaf]; simp⟩
    · exact ⟨⟨h1, Nat.zero_le _⟩, by rw [leaf]; simp⟩
  | cons x rest ih =>
    intro h S
    have ih' := ih fun s hs => h s (by simp [hs])
    have hpow : 1 ≤ 2 ^ rest.length := Nat.one_le_two_pow
    simp only [List.length_cons, Nat.pow_succ]
    unfold thT
    split
    · exact ⟨⟨h2, Nat.zero_le _⟩, by rw [leaf]; omega⟩
    split
    · exact ⟨⟨h1, Nat.zero_le _⟩, by rw [leaf]; omega⟩
    split
    · obtain ⟨⟨a1, a2⟩, a3⟩ := ih' (splitY S)
      exact ⟨⟨a1, by omega⟩, by omega⟩
    · obtain ⟨⟨a1, a2⟩, a3⟩ := ih' (splitY S)
      obtain ⟨⟨b1, b2⟩, b3⟩ := ih' (splitN S)
      obtain ⟨⟨c1, c2⟩, c3⟩ := choice_gen (d := 3 * rest.length + 1) (h x (by simp)) hn ⟨a1, by omega⟩ ⟨b1, by omega⟩ (by omega)
      exact ⟨⟨c1, by omega⟩, by omega⟩

theorem th_at {n : Nat} (hn : n ≤ 6) (S : BitVec 64) : ((thT (vocL n) S).all (nodeG n) = true ∧ (thT (vocL n) S).depth ≤ 18) ∧ (thT (vocL n) S).nodes + 6 ≤ 7 * 2 ^ n := by
  have h := th_gen (n := n) (by omega) (vocL n) (fun s hs => by
    obtain ⟨m, hm, rfl⟩ := List.mem_map.1 hs
    exact ⟨m, List.mem_range.1 hm, rfl⟩) S
  rw [vocL_len] at h
  exact ⟨⟨h.1.1, by omega⟩, h.2⟩
theorem th_good {n : Nat} (hn : n ≤ 6) (S : BitVec 64) : GoodF n (thT (vocL n) S) := by
  obtain ⟨⟨h1, h2⟩, h3⟩ := th_at hn S
  have : 2 ^ n ≤ 2 ^ 6 := Nat.pow_le_pow_right (by omega) hn
  exact ⟨valE_of (by omega) (by omega) (all_imp (fun t => nodeG_kind) _ h1) (all_imp (fun t => nodeG_name) _ h1), over_gen (keys_gen _ h1)⟩

theorem fold_size (sep : ByteArray) : ∀ (l : List ByteArray) (a : ByteArray), a.size ≤ (l.foldl (fun a b => a ++ sep ++ b) a).size
  | [], a => Nat.le_refl _
  | b :: l, a => by
    have h := fold_size sep l (a ++ sep ++ b)
    rw [ByteArray.size_append, ByteArray.size_append] at h
    rw [List.foldl_cons]
    omega
/-- A text is not empty. -/
theorem textB_pos {t : Tree} (h1 : t.all kindB = true) (h2 : t.all nameB = true) : 0 < (textB t).size := by
  obtain ⟨op, name, ts⟩ := t
  obtain ⟨k1, -⟩ := all_self h1
  obtain ⟨n1, -⟩ := all_self h2
  have hk := kindB_args k1
  simp only [Tree.op_node, Tree.args_node] at hk
  have hop : op = 1 ∨ op = 2 ∨ op = 3 ∨ op = 4 ∨ op = 5 ∨ op = 6 ∨ op = 7 ∨ op = 8 := by
    unfold kindB at k1
    simp only [Tree.op_node] at k1
    grind
  have hj : ∀ (sep : ByteArray) (l : List ByteArray), 0 < sep.size → 2 ≤ l.length → 0 < (joinB sep l).size := fun sep l h3 h4 => by
    match l, h4 with
    | a :: b :: rest, _ =>
      have h := fold_size sep rest (a ++ sep ++ b)
      rw [ByteArray.size_append, ByteArray.size_append] at h
      show 0 < ((b :: rest).foldl (fun a b => a ++ sep ++ b) a).size
      rw [List.foldl_cons]
      omega
  have hlen : ∀ k, (textsB k ts).length = ts.length := fun k => by rw [textsB_map, List.length_map]
  rcases hop with rfl | rfl | rfl | rfl | rfl | rfl | rfl | rfl
  · simp [textB, ByteArray.size]
  · simp [textB, ByteArray.size]
  · have : vn name = true := by simpa [nameB, Tree.op_node, Tree.name_node] using n1
    unfold vn at this
    simp only [Bool.and_eq_true, decide_eq_true_eq] at this
    simpa [textB] using this.1.1
  · have e : textB (.node 4 name ts) = ⟨#[126]⟩ ++ (textsB 5 ts).headD ⟨#[]⟩ := by simp [textB]
    rw [e, ByteArray.size_append]
    exact Nat.lt_of_lt_of_le (show 0 < (⟨#[126]⟩ : ByteArray).size by decide) (Nat.le_add_right _ _)
  · have e : textB (.node 5 name ts) = joinB ⟨#[32, 38, 32]⟩ (textsB 5 ts) := by simp [textB]
    rw [e]
    exact hj _ _ (by decide) (by rw [hlen]; exact (hk.2.1 (.inl rfl)).1)
  · have e : textB (.node 6 name ts) = joinB ⟨#[32, 124, 32]⟩ (textsB 4 ts) := by simp [textB]
    rw [e]
    exact hj _ _ (by decide) (by rw [hlen]; exact (hk.2.1 (.inr rfl)).1)
  · have e : textB (.node 7 name ts) = (textsB 3 ts).headD ⟨#[]⟩ ++ ⟨#[32, 45, 62, 32]⟩ ++ (textsB 2 ts).getD 1 ⟨#[]⟩ := by simp [textB]
    have h4 : (⟨#[32, 45, 62, 32]⟩ : ByteArray).size = 4 := by decide
    rw [e, ByteArray.size_append, ByteArray.size_append, h4]
    omega
  · have e : textB (.node 8 name ts) = joinB ⟨#[32, 60, 45, 62, 32]⟩ (textsB 2 ts) := by simp [textB]
    rw [e]
    exact hj _ _ (by decide) (by rw [hlen, hk.2.2 (.inr rfl)]; omega)

/-- Format at a theory. -/
theorem th_fmt (S : BitVec 64) : fmtI (thT (vocL 4) S) = 0 ∧ 0 < (fmtT (thT (vocL 4) S)).size := by
  obtain ⟨⟨h1, h2⟩, h3⟩ := th_at (n := 4) (by omega) S
  have hv := (th_good (n := 4) (by omega) S).val
  have hnm : (thT (vocL 4) S).all nameB = true := all_imp (fun t => nodeG_name) _ h1
  have hz := textB_size _ hnm
  have e : fmtI (thT (vocL 4) S) = 0 := by unfold fmtI; rw [if_pos hv, if_neg (by omega)]
  refine ⟨e, ?_⟩
  unfold fmtT
  rw [if_pos e]
  exact textB_pos (all_imp (fun t => nodeG_kind) _ h1) hnm
end Go.Proofs.YtilkpjcbmllgmaaGreatDoor

namespace Go.Proofs.YtilkpjcbmllgmaaGreatDoor
set_option linter.unusedVariables false
set_option linter.unusedSimpArgs false
open Go Go.RowKit

/-- The world with the atom number m made true; made false. -/
def hiW (j m : Nat) : Nat := if j.testBit m then j else j + 2 ^ m
def loW (j m : Nat) : Nat := if j.testBit m then j - 2 ^ m else j

def factF (j m : Nat) : Bool :=
  decide (hiW j m < 64) && decide (loW j m < 64) &&
  (if j.testBit m then decide (2 ^ m ≤ j) && (!wI m (j + 2 ^ m)) && (!wI m (j - 2 ^ m)) else decide (j + 2 ^ m < 64) && wI m (j + 2 ^ m) && (decide (j < 2 ^ m) || wI m (j - 2 ^ m))) &&
  (hiW (hiW j m) m == hiW j m) && (loW (hiW j m) m == loW j m) && (hiW (loW j m) m == hiW j m) && (loW (loW j m) m == loW j m) &&
  (List.range 7).all fun i => ((hiW j m).testBit i == if i = m then true else j.testBit i) && ((loW j m).testBit i == if i = m then false else j.testBit i)
theorem factF_F : ∀ j : Fin 64, ∀ m : Fin 6, factF j.val m.val = true := by decide +kernel
theorem factR : ∀ j : Fin 64, ∀ m : Fin 4, ((decide (j.val < 16) == decide (hiW j.val m.val < 16)) && (decide (j.val < 16) == decide (loW j.val m.val < 16))) = true := by decide +kernel

theorem forgetI_bit (A : BitVec 64) (m j : Nat) (hm : m < 6) (hj : j < 64) : (forgetI A m).getLsbD j = (A.getLsbD (hiW j m) || A.getLsbD (loW j m)) := by
  have h := factF_F ⟨j, hj⟩ ⟨m, hm⟩
  simp only [factF, Bool.and_eq_true, decide_eq_true_eq] at h
  obtain ⟨⟨⟨⟨⟨⟨⟨h1, h2⟩, h3⟩, -⟩, -⟩, -⟩, -⟩, -⟩ := h
  unfold forgetI
  simp only [BitVec.getLsbD_or, BitVec.getLsbD_ushiftRight, BitVec.getLsbD_shiftLeft, BitVec.getLsbD_and, BitVec.getLsbD_not]
  by_cases hb : j.testBit m = true
  · have e1 : hiW j m = j := by unfold hiW; rw [if_pos hb]
    have e2 : loW j m = j - 2 ^ m := by unfold loW; rw [if_pos hb]
    rw [if_pos hb] at h3
    simp only [Bool.and_eq_true, decide_eq_true_eq, Bool.not_eq_true'] at h3
    obtain ⟨⟨h4, h5⟩, h6⟩ := h3
    have hw1 : (wset (wI m)).getLsbD (2 ^ m + j) = false := by
      by_cases h64 : 2 ^ m + j < 64
      · rw [wset_bit _ _ h64, Nat.add_comm]; exact h5
      · exact BitVec.getLsbD_of_ge _ _ (by omega)
    rw [e1, e2, hw1, wset_bit _ (j - 2 ^ m) (Nat.lt_of_le_of_lt (Nat.sub_le _ _) hj), h6]
    have hlt : decide (j < 2 ^ m) = false := decide_eq_false (by omega)
    have hlt' : decide (j - 2 ^ m < 64) = true := decide_eq_true (Nat.lt_of_le_of_lt (Nat.sub_le _ _) hj)
    have hlt2 : decide (j < 64) = true := decide_eq_true (by omega)
    rw [hlt, hlt', hlt2]
    simp
  · have hb' : j.testBit m = false := by simpa using hb
    have e1 : hiW j m = j + 2 ^ m := by unfold hiW; rw [if_neg hb]
    have e2 : loW j m = j := by unfold loW; rw [if_neg hb]
    rw [if_neg hb] at h3
    simp only [Bool.and_eq_true, decide_eq_true_eq, Bool.or_eq_true] at h3
    obtain ⟨⟨h4, h5⟩, h6⟩ := h3
    rw [e1, e2, Nat.add_comm (2 ^ m) j, wset_bit _ (j + 2 ^ m) h4, h5]
    have hz : (decide (j < 64) && !decide (j < 2 ^ m) && (A.getLsbD (j - 2 ^ m) && (decide (j - 2 ^ m < 64) && !(wset (wI m)).getLsbD (j - 2 ^ m)))) = false := by
      rcases h6 with h6 | h6
      · rw [decide_eq_true h6]; simp
      · rw [wset_bit _ (j - 2 ^ m) (Nat.lt_of_le_of_lt (Nat.sub_le _ _) hj), h6]; simp
    rw [hz]
    cases A.getLsbD j <;> simp

theorem forgetI_idem (A : BitVec 64) (m : Nat) (hm : m < 6) : forgetI (forgetI A m) m = forgetI A m := set_ext fun j hj => by
  have h := factF_F ⟨j, hj⟩ ⟨m, hm⟩
  simp only [factF, Bool.and_eq_true, decide_eq_true_eq, beq_iff_eq] at h
  obtain ⟨⟨⟨⟨⟨⟨⟨h1, h2⟩, h3⟩, h4⟩, h5⟩, h6⟩, h7⟩, -⟩ := h
  rw [forgetI_bit _ m j hm hj, forgetI_bit _ m _ hm h1, forgetI_bit _ m _ hm h2, forgetI_bit _ m j hm hj, h4, h5, h6, h7]
  cases A.getLsbD (hiW j m) <;> cases A.getLsbD (loW j m) <;> rfl
theorem forgetI_le (A : BitVec 64) (m : Nat) (hm : m < 6) : A &&& ~~~(forgetI A m) = 0#64 := set_ext fun j hj => by
  simp only [BitVec.getLsbD_and, BitVec.getLsbD_not, BitVec.getLsbD_zero, forgetI_bit _ m j hm hj]
  have e : j = hiW j m ∨ j = loW j m := by
    unfold hiW loW
    by_cases hb : j.testBit m = true
    · rw [if_pos hb]; exact .inl rfl
    · rw [if_neg hb, if_neg hb]; exact .inr rfl
  rcases e with e | e
  · rw [← e]
    cases A.getLsbD j <;> simp
  · rw [← e]
    cases A.getLsbD j <;> simp
theorem forgetI_in (A : BitVec 64) (m : Nat) (hm : m < 4) (hA : A &&& allS 4 = A) : forgetI A m &&& allS 4 = forgetI A m := set_ext fun j hj => by
  have h := factR ⟨j, hj⟩ ⟨m, hm⟩
  rw [Bool.and_eq_true, beq_iff_eq, beq_iff_eq] at h
  obtain ⟨h1, h2⟩ := h
  have h3 := factF_F ⟨j, hj⟩ ⟨m, by omega⟩
  simp only [factF, Bool.and_eq_true, decide_eq_true_eq] at h3
  obtain ⟨⟨⟨⟨⟨⟨⟨h4, h5⟩, -⟩, -⟩, -⟩, -⟩, -⟩, -⟩ := h3
  have hb : ∀ k, k < 64 → A.getLsbD k = (A.getLsbD k && decide (k < 16)) := fun k hk => by
    have := congrArg (·.getLsbD k) hA
    simp only [BitVec.getLsbD_and, allS, wset_bit _ k hk] at this
    exact this.symm
  rw [BitVec.getLsbD_and, allS, wset_bit _ j hj, forgetI_bit _ m j (by omega) hj, hb _ h4, hb _ h5]
  have e1 : decide (hiW j m < 16) = decide (j < 2 ^ 4) := h1.symm
  have e2 : decide (loW j m < 16) = decide (j < 2 ^ 4) := h2.symm
  rw [e1, e2]
  cases decide (j < 2 ^ 4) <;> simp

theorem idx_letter : ∀ m : Fin 4, idxB (vocL 4) (letter m.val) = m.val ∧ inB (vocL 4) (letter m.val) = true := by decide +kernel
theorem idxB_le (voc : List ByteArray) (s : ByteArray) : idxB voc s ≤ voc.length := List.findIdx_le_length

/-- An atom made true or false is the world with it. -/
theorem atom_set (m j : Nat) (hm : m < 4) (hj : j < 64) (b : Bool) : (fun s => if s = letter m then b else atomAt (vocL 4) j s) = atomAt (vocL 4) (if b then hiW j m else loW j m) := by
  funext s
  have hi := (idx_letter ⟨m, hm⟩).1
  have h := factF_F ⟨j, hj⟩ ⟨m, by omega⟩
  simp only [factF, Bool.and_eq_true, List.all_eq_true, List.mem_range, beq_iff_eq] at h
  obtain ⟨-, h8⟩ := h
  have hle := idxB_le (vocL 4) s
  rw [vocL_len] at hle
  obtain ⟨h9, h10⟩ := h8 (idxB (vocL 4) s) (by omega)
  have key : idxB (vocL 4) s = m → s = letter m := fun e => by
    have hlt : idxB (vocL 4) s < (vocL 4).length := by rw [vocL_len]; omega
    have h1 := List.findIdx_getElem (w := hlt)
    rw [beq_iff_eq] at h1
    have h2 := bytes_inj h1
    rw [← h2]
    have hget : ∀ k (h : k < (vocL 4).length), (vocL 4)[k] = letter k := by intro k h; simp [vocL]
    exact (hget _ hlt).trans (by rw [e])
  by_cases e : s = letter m
  · subst e
    have hi' : idxB (vocL 4) (letter m) = m := hi
    rw [if_pos rfl]
    rw [if_pos hi'] at h9 h10
    cases b
    · exact h10.symm
    · exact h9.symm
  · rw [if_neg e]
    have hne : idxB (vocL 4) s ≠ m := fun x => e (key x)
    rw [if_neg hne] at h9 h10
    cases b
    · exact h10.symm
    · exact h9.symm

abbrev unitT : Tree := .node 1 ⟨#[]⟩ []
abbrev nullT : Tree := .node 2 ⟨#[]⟩ []
/-- The disjunction of the two formulas in which the atom is replaced by 1 and by 0. -/
abbrev forgT (f : Tree) (m : Nat) : Tree := .node 6 ⟨#[]⟩ [substT (letter m) unitT f, substT (letter m) nullT f]

theorem forg_mod (f : Tree) (m : Nat) (hm : m < 4) (hf : wellF f = true) : modM 4 (forgT f m) = forgetS (vocL 4) (modM 4 f) (letter m) := by
  have hi : idxB (vocL 4) (letter m) = m := (idx_letter ⟨m, hm⟩).1
  have hin : inB (vocL 4) (letter m) = true := (idx_letter ⟨m, hm⟩).2
  rw [forgetS, if_pos hin, hi, vocL_len]
  have hA : modM 4 f &&& allS 4 = modM 4 f := by unfold modM; rw [BitVec.and_assoc, BitVec.and_self]
  rw [hA]
  refine set_ext fun j hj => ?_
  have h := factF_F ⟨j, hj⟩ ⟨m, by omega⟩
  simp only [factF, Bool.and_eq_true, decide_eq_true_eq] at h
  obtain ⟨⟨⟨⟨⟨⟨⟨h1, h2⟩, -⟩, -⟩, -⟩, -⟩, -⟩, -⟩ := h
  have hr := factR ⟨j, hj⟩ ⟨m, hm⟩
  rw [Bool.and_eq_true, beq_iff_eq, beq_iff_eq] at hr
  obtain ⟨r1, r2⟩ := hr
  have e1 : decide (hiW j m < 2 ^ 4) = decide (j < 2 ^ 4) := r1.symm
  have e2 : decide (loW j m < 2 ^ 4) = decide (j < 2 ^ 4) := r2.symm
  rw [forgetI_bit _ m j (by omega) hj]
  unfold modM
  simp only [BitVec.getLsbD_and, modelsV_bit _ _ j hj, modelsV_bit _ _ _ h1, modelsV_bit _ _ _ h2, allS, wset_bit _ j hj, wset_bit _ _ h1, wset_bit _ _ h2, e1, e2]
  have s1 := subst_value (atomAt (vocL 4) j) (letter m) unitT f hf
  have s2 := subst_value (atomAt (vocL 4) j) (letter m) nullT f hf
  have v1 : valueB (atomAt (vocL 4) j) unitT = true := by simp [valueB]
  have v2 : valueB (atomAt (vocL 4) j) nullT = false := by simp [valueB]
  rw [v1, atom_set m j hm hj true] at s1
  rw [v2, atom_set m j hm hj false] at s2
  rw [if_pos rfl] at s1
  rw [if_neg (by decide)] at s2
  rw [← s1, ← s2]
  simp only [forgT, valueB, valuesB]
  cases valueB (atomAt (vocL 4) j) (substT (letter m) unitT f) <;> cases valueB (atomAt (vocL 4) j) (substT (letter m) nullT f) <;> cases decide (j < 2 ^ 4) <;> rfl

theorem forg_idem (A : BitVec 64) (m : Nat) (hm : m < 4) : forgetS (vocL 4) (forgetS (vocL 4) A (letter m)) (letter m) = forgetS (vocL 4) A (letter m) := by
  have hi : idxB (vocL 4) (letter m) = m := (idx_letter ⟨m, hm⟩).1
  have hin : inB (vocL 4) (letter m) = true := (idx_letter ⟨m, hm⟩).2
  simp only [forgetS, if_pos hin, hi, vocL_len]
  rw [forgetI_in _ m hm (by rw [BitVec.and_assoc, BitVec.and_self]), forgetI_idem _ m (by omega)]
theorem forg_le (f : Tree) (m : Nat) (hm : m < 4) : modM 4 f &&& ~~~(forgetS (vocL 4) (modM 4 f) (letter m)) = 0#64 := by
  have hi : idxB (vocL 4) (letter m) = m := (idx_letter ⟨m, hm⟩).1
  have hin : inB (vocL 4) (letter m) = true := (idx_letter ⟨m, hm⟩).2
  have hA : modM 4 f &&& allS 4 = modM 4 f := by unfold modM; rw [BitVec.and_assoc, BitVec.and_self]
  simp only [forgetS, if_pos hin, hi, vocL_len, hA]
  exact forgetI_le _ m (by omega)

theorem subst_good {n : Nat} (p : ByteArray) (g : Tree) (hg : g.all (nodeG n) = true) (hd : g.depth = 0) : ∀ t : Tree, t.all (nodeG n) = true → (substT p g t).all (nodeG n) = true ∧ (substT p g t).depth ≤ t.depth := by
  refine Tree.ind fun op name ts ih h => ?_
  obtain ⟨h1, h2⟩ := all_self h
  rw [substT_node]
  by_cases e : op = 3 ∧ ts.length = 0 ∧ name = p
  · rw [if_pos e]
    exact ⟨hg, by rw [hd]; exact Nat.zero_le _⟩
  · rw [if_neg e]
    have key : ∀ l : List Tree, (∀ t ∈ l, t ∈ ts) → allL (nodeG n) (l.map (substT p g)) = true ∧ depthL (l.map (substT p g)) ≤ depthL l := by
      intro l
      induction l with
      | nil => intro _; exact ⟨rfl, Nat.le_refl _⟩
      | cons t l ih2 =>
        intro hl
        obtain ⟨a1, a2⟩ := ih t (hl t (by simp)) (allL_mem h2 t (hl t (by simp)))
        obtain ⟨b1, b2⟩ := ih2 fun t ht => hl t (by simp [ht])
        simp only [List.map_cons, allL, depthL, Bool.and_eq_true]
        exact ⟨⟨a1, b1⟩, by omega⟩
    obtain ⟨k1, k2⟩ := key ts fun _ h => h
    refine ⟨?_, k2⟩
    rw [Tree.all, Bool.and_eq_true]
    refine ⟨?_, k1⟩
    have h3 := nodeG_kind h1
    have h4 := nodeG_name h1
    have h5 := nodeG_args h1
    rw [← kindB_len (ts := ts) (us := ts.map (substT p g)) (by simp)] at h3
    rw [← nameB_len (ts := ts) (us := ts.map (substT p g))] at h4
    rw [Tree.args_node] at h5
    have h6 : (op != 3 || (List.range n).any fun m => name.data.toList == (letter m).data.toList) = true := by
      unfold nodeG at h1
      rw [Bool.and_eq_true] at h1
      exact h1.2
    show (_ && _ && _ && _) = true
    rw [h3, h4, Tree.args_node, List.length_map, decide_eq_true h5]
    exact h6

theorem forg_good (f : Tree) (m : Nat) (hf : f.all (nodeG 4) = true ∧ f.depth ≤ 3) : (forgT f m).all (nodeG 4) = true ∧ (forgT f m).depth ≤ 4 := by
  have h1 := subst_good (n := 4) (letter m) unitT (gen_const 4 0 (by omega)) rfl f hf.1
  have h2 := subst_good (n := 4) (letter m) nullT (gen_const 4 1 (by omega)) rfl f hf.1
  exact Parts.node (n := 4) (d := 3) (ts := [substT (letter m) unitT f, substT (letter m) nullT f]) (fun t ht => by
    rcases List.mem_cons.1 ht with rfl | ht
    · exact ⟨h1.1, by omega⟩
    · rw [List.mem_singleton.1 ht]; exact ⟨h2.1, by omega⟩) (op := 6) (node_good (.inr (.inl ⟨.inr rfl, by simp⟩)))

/-- A box of an empty formula holds no part of a well-formed one. -/
theorem FormIn.unbox {w : World} {S : Nat → Prop} {nb : Nat} {s0 : ByteArray} {v0 : Value} {ty : TypeId} (hz : w.heap[nb]? = some (.cells #[.int .i64 0, .string s0, v0] ty (0, 0))) (hv0 : ∀ k i, v0 ≠ .int k i) {v : Value} {t : Tree} (h : FormIn w S v t) (hk : t.all kindB = true) : FormIn w (fun i => S i ∧ i ≠ nb) v t := by
  induction h with
  | node op name a cap ts b off o s v hop hname hlen hcap ha hc hs ih =>
    obtain ⟨k1, k2⟩ := all_self hk
    refine .node op name a cap ts b off o s v hop hname hlen hcap (fun h => ⟨(ha h).1, (ha h).2, fun e => ?_⟩) hc (fun i hi => ih i hi (allL_mem k2 _ (List.getElem_mem hi)))
    subst e
    have c0 := (hc 0 h).1
    have hsh := hs 0 h
    obtain ⟨a', cap', b', off', e, -⟩ := hsh.form
    injection e with e
    have e1 : o 0 = ts[0].op := by simp at e; exact e.1
    have hk0 := allL_mem k2 _ (List.getElem_mem h)
    have hop0 : ts[0].op ≠ 0 := by
      generalize ts[0] = t at hk0
      obtain ⟨op', name', ts'⟩ := t
      have hk1 := (all_self hk0).1
      unfold kindB at hk1
      simp only [Tree.op_node] at hk1 ⊢
      grind
    simp only [Nat.zero_mul, Nat.add_zero] at c0
    have hcc : (#[.int .i64 0, .string s0, v0] : Array Value)[off]? = some (.int .i64 (o 0)) := by simpa [World.cell?, hz] using c0
    match off, hcc with
    | 0, hcc => simp at hcc; exact hop0 (by omega)
    | 1, hcc => simp at hcc
    | 2, hcc => simp at hcc; exact hv0 _ _ hcc
    | n + 3, hcc => simp at hcc
end Go.Proofs.YtilkpjcbmllgmaaGreatDoor

namespace Go.Proofs.YtilkpjcbmllgmaaGreatDoor
set_option linter.unusedVariables false
set_option linter.unusedSimpArgs false
open Go Go.RowKit

/-- Of the first k worlds, those of the set in which the first atom has the value d, without its bit. -/
def halfP (S : BitVec 64) (d k j : Nat) : Bool := decide (2 * j + d < k) && S.getLsbD (2 * j + d)
def halfS (S : BitVec 64) (d k : Nat) : BitVec 64 := wset (halfP S d k)
theorem halfS_zero (S : BitVec 64) (d : Nat) : halfS S d 0 = 0#64 := set_ext fun j hj => by
  rw [halfS, wset_bit _ j hj]
  simp [halfP]
theorem halfS_on (S : BitVec 64) (d k : Nat) (hk : k < 64) (hd : d < 2) (h1 : S.getLsbD k = true) (h2 : k % 2 = d) : halfS S d (k + 1) = halfS S d k ||| BitVec.twoPow 64 (k / 2) := set_ext fun j hj => by
  rw [BitVec.getLsbD_or, halfS, halfS, wset_bit _ j hj, wset_bit _ j hj, BitVec.getLsbD_twoPow]
  unfold halfP
  by_cases e : 2 * j + d = k
  · have e2 : k / 2 = j := by omega
    simp [e, h1, e2, hj]
  · have e2 : ¬ k / 2 = j := by omega
    have e3 : decide (2 * j + d < k + 1) = decide (2 * j + d < k) := by rw [decide_eq_decide]; omega
    simp [e2, e3]
theorem halfS_off (S : BitVec 64) (d k : Nat) (h : S.getLsbD k = false ∨ k % 2 ≠ d) (hd : d < 2) : halfS S d (k + 1) = halfS S d k := set_ext fun j hj => by
  rw [halfS, halfS, wset_bit _ j hj, wset_bit _ j hj]
  unfold halfP
  by_cases e : 2 * j + d = k
  · rcases h with h | h
    · rw [e, h, Bool.and_false, Bool.and_false]
    · exact absurd (by omega) h
  · have e3 : decide (2 * j + d < k + 1) = decide (2 * j + d < k) := by rw [decide_eq_decide]; omega
    rw [e3]

theorem and_allS_bit (S : BitVec 64) (n j : Nat) : (S &&& allS n).getLsbD j = (S.getLsbD j && (decide (j < 64) && decide (j < 2 ^ n))) := by
  rw [BitVec.getLsbD_and]
  by_cases hj : j < 64
  · rw [allS, wset_bit _ j hj, decide_eq_true hj, Bool.true_and]
  · rw [BitVec.getLsbD_of_ge S j (by omega), Bool.false_and, Bool.false_and]

theorem halfS_yes (S : BitVec 64) (n : Nat) (hn : n ≤ 5) : halfS S 1 (2 ^ (n + 1)) = splitY (S &&& allS (n + 1)) := set_ext fun j hj => by
  rw [halfS, splitY, wset_bit _ j hj, wset_bit _ j hj]
  unfold halfP splitP
  rw [and_allS_bit]
  have h64 : 2 ^ (n + 1) ≤ 64 := by
    have := Nat.pow_le_pow_right (n := 2) (by omega) (show n + 1 ≤ 6 by omega)
    omega
  by_cases h : 2 * j + 1 < 2 ^ (n + 1)
  · have e1 : j < 32 := by omega
    have e2 : 2 * j + 1 < 64 := by omega
    simp [h, e1, e2]
  · simp [h]
theorem halfS_no (S : BitVec 64) (n : Nat) (hn : n ≤ 5) : halfS S 0 (2 ^ (n + 1)) = splitN (S &&& allS (n + 1)) := set_ext fun j hj => by
  rw [halfS, splitN, wset_bit _ j hj, wset_bit _ j hj]
  unfold halfP splitP
  rw [and_allS_bit]
  simp only [Nat.add_zero]
  have h64 : 2 ^ (n + 1) ≤ 64 := by
    have := Nat.pow_le_pow_right (n := 2) (by omega) (show n + 1 ≤ 6 by omega)
    omega
  by_cases h : 2 * j < 2 ^ (n + 1)
  · have e1 : j < 32 := by omega
    have e2 : 2 * j < 64 := by omega
    rw [decide_eq_true h, decide_eq_true e1, decide_eq_true e2]
    simp
  · rw [decide_eq_false h]
    simp

/-- Worlds of n atoms alone are left whole. -/
theorem inS_mask {n : Nat} {T : BitVec 64} (h : InS n T) : T &&& allS n = T := set_ext fun j hj => by
  rw [and_allS_bit]
  cases hb : T.getLsbD j
  · rfl
  · simp [hj, h j hj hb]

/-- Two theories over the same names are the same exactly if the sets are. -/
theorem th_inj {voc : List ByteArray} (hnd : voc.Nodup) (hl : voc.length ≤ 6) {Y N : BitVec 64} (hY : InS voc.length Y) (hN : InS voc.length N) (h : thT voc Y = thT voc N) : Y = N := set_ext fun j hj => by
  by_cases hj2 : j < 2 ^ voc.length
  · rw [← value_th voc hnd hl Y hY j hj2, ← value_th voc hnd hl N hN j hj2, h]
  · have e1 : Y.getLsbD j = false := by
      cases hb : Y.getLsbD j
      · rfl
      · exact absurd (hY j hj hb) hj2
    have e2 : N.getLsbD j = false := by
      cases hb : N.getLsbD j
      · rfl
      · exact absurd (hN j hj hb) hj2
    rw [e1, e2]

/-- The names of a vocabulary are different; its tail is one too. -/
theorem bytesLess_lt (a b : ByteArray) (h : Op.bytesLess a.toList b.toList = true) : a.data.toList < b.data.toList := by
  rw [Proofs.bytesLess_eq, Lib.toList_data, Lib.toList_data, decide_eq_true_eq] at h
  exact h
theorem vocUpto_at {l : List ByteArray} {n : Nat} (h : vocUpto l n = true) (k : Nat) (hk : k < n) : vn (l.getD k ⟨#[]⟩) = true ∧ (k = 0 ∨ Op.bytesLess (l.getD (k - 1) ⟨#[]⟩).toList (l.getD k ⟨#[]⟩).toList = true) := by
  have h1 : vocUpto l (k + 1) = true := by
    cases h2 : vocUpto l (k + 1)
    · rw [vocUpto_false l (k + 1) n hk h2] at h
      cases h
    · rfl
  rw [vocUpto, Bool.and_eq_true, Bool.and_eq_true, Bool.or_eq_true, beq_iff_eq] at h1
  exact h1.2
theorem vocUpto_of {l : List ByteArray} {n : Nat} (h : ∀ k, k < n → vn (l.getD k ⟨#[]⟩) = true ∧ (k = 0 ∨ Op.bytesLess (l.getD (k - 1) ⟨#[]⟩).toList (l.getD k ⟨#[]⟩).toList = true)) : vocUpto l n = true := by
  induction n with
  | zero => rfl
  | succ n ih =>
    rw [vocUpto, ih fun k hk => h k (by omega), Bool.true_and, Bool.and_eq_true, Bool.or_eq_true, beq_iff_eq]
    exact h n (by omega)
theorem vocB_tail {x : ByteArray} {l : List ByteArray} (h : vocB (x :: l) = true) : vocB l = true := by
  unfold vocB at h ⊢
  rw [Bool.and_eq_true, decide_eq_true_eq] at h ⊢
  simp only [List.length_cons] at h
  refine ⟨by omega, vocUpto_of fun k hk => ?_⟩
  obtain ⟨h1, h2⟩ := vocUpto_at h.2 (k + 1) (by omega)
  simp only [List.getD_cons_succ] at h1 h2
  refine ⟨h1, ?_⟩
  by_cases hk0 : k = 0
  · exact .inl hk0
  · obtain ⟨j, rfl⟩ : ∃ j, k = j + 1 := ⟨k - 1, by omega⟩
    rcases h2 with h2 | h2
    · omega
    · simp only [Nat.add_sub_cancel, List.getD_cons_succ] at h2
      exact .inr h2
theorem vocB_len {l : List ByteArray} (h : vocB l = true) : l.length ≤ 6 := by
  unfold vocB at h
  rw [Bool.and_eq_true, decide_eq_true_eq] at h
  exact h.1
theorem vocB_asc : ∀ {l : List ByteArray}, vocB l = true → AscS l := by
  intro l
  induction l with
  | nil => exact fun _ => List.Pairwise.nil
  | cons x l ih =>
    intro h
    have ht := ih (vocB_tail h)
    cases l with
    | nil => exact List.pairwise_cons.2 ⟨fun y hy => by simp at hy, List.Pairwise.nil⟩
    | cons y l =>
      have h' := h
      unfold vocB at h'
      rw [Bool.and_eq_true, decide_eq_true_eq] at h'
      obtain ⟨-, h2⟩ := vocUpto_at h'.2 1 (by simp)
      rcases h2 with h2 | h2
      · omega
      · have hxy : x.data.toList < y.data.toList := bytesLess_lt x y (by simpa using h2)
        refine List.pairwise_cons.2 ⟨fun z hz => ?_, ht⟩
        rcases List.mem_cons.1 hz with rfl | hz
        · exact hxy
        · exact List.lt_trans hxy ((List.pairwise_cons.1 ht).1 z hz)
theorem vocB_nodup {l : List ByteArray} (h : vocB l = true) : l.Nodup := (vocB_asc h).nodup
end Go.Proofs.YtilkpjcbmllgmaaGreatDoor

namespace Go.Proofs.YtilkpjcbmllgmaaGreatDoor
set_option linter.unusedVariables false
set_option linter.unusedSimpArgs false
open Go Go.RowKit

theorem leq_flip (a b : ByteArray) : (Op.bytesLess a.toList b.toList || a.toList == b.toList) = !Op.bytesLess b.toList a.toList := by
  rw [Proofs.bytesLess_eq, Proofs.bytesLess_eq]
  generalize a.toList = x
  generalize b.toList = y
  by_cases h1 : y < x
  · have h2 : ¬ x < y := fun h => List.lt_irrefl _ (List.lt_trans h h1)
    have h3 : (x == y) = false := by
      rw [beq_eq_false_iff_ne]
      exact fun e => List.lt_irrefl _ (e ▸ h1)
    simp [h1, h2, h3]
  · by_cases h2 : x < y
    · simp [h1, h2]
    · have h3 : x = y := List.le_antisymm (List.not_lt.1 h1) (List.not_lt.1 h2)
      simp [h3, List.lt_irrefl]

theorem below_drewN (w : World) (n : Nat) : Below w.heap.size w (w.drewN n) := ⟨rfl, rfl, rfl, Nat.le_refl _, fun _ _ => rfl⟩

set_option maxRecDepth 100000 in
set_option maxHeartbeats 1000000 in
theorem r3valid_any (l : List ByteArray) (a : Option Addr) (c : Nat) (hn : l.length ≤ 1000000) (w : World) {S : Nat → Prop} (h : StrsIn w S a l) :
    Calls Tryz.prog 27 #[.slice a l.length c] w fun e w' => e = .returned (.bool (vocB l)) ∧ Below w.heap.size w w' := by
  have H := hidIt h
  clear h
  have HV : Hid (vocB l = (decide (l.length ≤ 6) && vocUpto l l.length)) := rfl
  go_enter Tryz.func27, Tryz.ntmps27
  go_wp2_with fail
  go_loopw [3] (fun i wr => ∃ k : Nat, k ≤ l.length ∧ i = .int .i64 k ∧ Hid (∃ n, wr = w.drewN n) ∧ Hid (vocUpto l k = true)) (fun i _ => l.length - (intOf i).toNat)
  case atStart => exact ⟨0, Nat.zero_le _, rfl, ⟨0, rfl⟩, rfl⟩
  case round =>
    obtain ⟨k, hk, rfl, hn', hok⟩ := hrel
    have HR : Hid (StrsIn wr S a l) := by obtain ⟨n, rfl⟩ := hn'.out; exact H.out
    have HBL : Hid (Below w.heap.size w wr) := by obtain ⟨n, rfl⟩ := hn'.out; exact below_drewN _ _
    have HNX : Hid (∀ m, Hid (∃ n, wr.drewN m = w.drewN n)) := fun m => by obtain ⟨n, rfl⟩ := hn'.out; exact ⟨_, World.drewN_drewN _ _ _⟩
    clear hn'
    by_cases hlt : k < l.length
    · obtain ⟨b, off, rfl, c0, hsz⟩ := HR.out.at k hlt
      have hlt' : (k : Int) < (l.length : Int) := by omega
      have hk0' : (0 : Int) ≤ (k : Int) := by omega
      have HST : Hid (vocUpto l (k + 1) = (vn l[k] && (k == 0 || Op.bytesLess (l.getD (k - 1) ⟨#[]⟩).toList l[k].toList))) := by
        show _ = _
        rw [vocUpto, hok.out, Bool.true_and, List.getD_eq_getElem?_getD (i := k), List.getElem?_eq_getElem hlt, Option.getD_some]
      have HFALSE := hidIt (fun e => vocUpto_false l (k + 1) l.length (by omega) e)
      have hcall := fun (m : Nat) => (rValidName_any l[k] (wr.drewN m) hsz).mono fun e w' (h : e = .returned (.bool (vn l[k])) ∧ wr.drewN m = w') => (⟨h.1, h.2.symm⟩ : e = .returned (.bool (vn l[k])) ∧ w' = wr.drewN m)
      by_cases hv : vn l[k] = true
      · by_cases hk0 : k = 0
        · subst hk0
          have HT : Hid (vocUpto l (0 + 1) = true) := by show _ = _; rw [HST.out, hv]; rfl
          rw [hv] at hcall
          clear HST HFALSE
          generalize l[0] = x at *
          rw [Nat.add_zero] at c0
          have HC := hidIt hcall
          clear hv hcall hk0'
          have hg : decide ((0 : Int) > 0) = false := by decide
          go_wp2_with fail
          go_quiet (exact Calls.quiet_of_same (HC.out _))
          go_wp2_with fail
          go_roundw
          case rel => exact ⟨1, by omega, rfl, HNX.out _, HT⟩
          case measure => simp [intOf]; omega
        · obtain ⟨j, hj⟩ : ∃ j, k = j + 1 := ⟨k - 1, by omega⟩
          obtain ⟨b', off', e', d0, hsz'⟩ := HR.out.at j (by omega)
          obtain ⟨rfl, rfl⟩ : b' = b ∧ off' = off := by
            injection e' with e2
            injection e2 with e3 e4
            exact ⟨e3.symm, e4.symm⟩
          have HG : Hid (l.getD (k - 1) ⟨#[]⟩ = l[j]) := by show _ = _; rw [List.getD_eq_getElem?_getD, show k - 1 = j by omega, List.getElem?_eq_getElem (by omega), Option.getD_some]
          have hk1 : (k == 0) = false := by rw [beq_eq_false_iff_ne]; omega
          rw [HG.out, hv, hk1] at HST
          rw [hv] at hcall
          have hsub : IntKind.i64.wrap ((k : Int) - 1) = (j : Int) := by rw [IntWalk.i64_in _ (by omega)]; omega
          have hj0 : (0 : Int) ≤ (j : Int) := by omega
          have hjl : (j : Int) < (l.length : Int) := by omega
          have hg : 0 < k := by omega
          generalize l[k] = x at *
          generalize l[j] = y at *
          have hflip := leq_flip x y
          have HC := hidIt hcall
          clear hv e' HG hcall hk1 hj
          cases hlb : Op.bytesLess y.toList x.toList
          · have HT : Hid (vocB l = false) := by show _ = _; rw [HV.out, HFALSE.out (by rw [HST.out, hlb]; rfl), Bool.and_false]
            rw [hlb] at hflip
            clear HST HFALSE
            go_wp2_with fail
            go_quiet (exact Calls.quiet_of_same (HC.out _))
            go_wp2_with fail
            go_ret
            exact ⟨ret_bool HT.out.symm, HBL.out.trans (Below.mono (below_drewN _ _) HBL.out.size)⟩
          · have HT : Hid (vocUpto l (k + 1) = true) := by show _ = _; rw [HST.out, hlb]; simp
            rw [hlb] at hflip
            clear HST HFALSE
            go_wp2_with fail
            go_quiet (exact Calls.quiet_of_same (HC.out _))
            go_wp2_with fail
            go_roundw
            case rel => exact ⟨k + 1, by omega, by go_num, HNX.out _, HT⟩
            case measure => simp [intOf]; omega
      · have hv' : vn l[k] = false := by simpa using hv
        have HT : Hid (vocB l = false) := by show _ = _; rw [HV.out, HFALSE.out (by rw [HST.out, hv']; rfl), Bool.and_false]
        rw [hv'] at hcall
        clear HST HFALSE hv hv'
        generalize l[k] = x at *
        have HC := hidIt hcall
        clear hcall
        go_wp2_with fail
        go_quiet (exact Calls.quiet_of_same (HC.out _))
        go_wp2_with fail
        go_ret
        exact ⟨ret_bool HT.out.symm, HBL.out.trans (Below.mono (below_drewN _ _) HBL.out.size)⟩
    · obtain rfl : k = l.length := by omega
      have HT : Hid (vocB l = decide ((l.length : Int) ≤ 6)) := by
        show _ = _
        rw [HV.out, hok.out, Bool.and_true, decide_eq_decide]
        omega
      go_wp2_with fail
      go_ret
      exact ⟨ret_bool HT.out.symm, HBL.out⟩

set_option maxHeartbeats 400000 in
theorem r3has_any (S : BitVec 64) (k : Nat) (hk : k < 64) (w : World) :
    Calls Tryz.prog 74 #[bv S, .int .i64 (k : Int)] w fun e w' => e = .returned (.bool (S.getLsbD k)) ∧ w' = w := by
  have hS := S.isLt
  have hb := bit_shr S k
  have hk0 : (0 : Int) ≤ (k : Int) := by omega
  have hw : IntKind.u64.wrap (k : Int) = (k : Int) := by rw [IntKind.wrap_u64]; omega
  obtain ⟨r, hr⟩ : ∃ r, S.getLsbD k = r := ⟨_, rfl⟩
  rw [hr] at hb ⊢
  clear hr
  cases r
  · have hb' : bits .and .u64 ((S.toNat : Int) / 2 ^ k) 1 = 0 := hb
    clear hb
    go_enter Tryz.func74, Tryz.ntmps74
    go_wp2
    go_ret
    exact ⟨rfl, rfl⟩
  · have hb' : bits .and .u64 ((S.toNat : Int) / 2 ^ k) 1 = 1 := hb
    clear hb
    go_enter Tryz.func74, Tryz.ntmps74
    go_wp2
    go_ret
    exact ⟨rfl, rfl⟩

set_option maxHeartbeats 400000 in
theorem r3count_any (n : Nat) (a : Option Addr) (c : Nat) (hn : n ≤ 6) (w : World) :
    Calls Tryz.prog 72 #[.slice a n c] w fun e w' => e = .returned (.int .i64 ((2 ^ n : Nat) : Int)) ∧ w' = w := by
  rcases (by omega : n = 0 ∨ n = 1 ∨ n = 2 ∨ n = 3 ∨ n = 4 ∨ n = 5 ∨ n = 6) with rfl | rfl | rfl | rfl | rfl | rfl | rfl
  all_goals
    go_enter Tryz.func72, Tryz.ntmps72
    go_wp2
    go_ret
    exact ⟨rfl, rfl⟩

/-- What All answers. -/
def allR (l : List ByteArray) : BitVec 64 := if vocB l = true then allS l.length else 0#64

set_option maxRecDepth 100000 in
set_option maxHeartbeats 1000000 in
theorem r3all_any (l : List ByteArray) (a : Option Addr) (c : Nat) (hn : l.length ≤ 1000000) (w : World) {S : Nat → Prop} (h : StrsIn w S a l) :
    Calls Tryz.prog 29 #[.slice a l.length c] w fun e w' => e = .returned (bv (allR l)) ∧ Below w.heap.size w w' := by
  have H := hidIt h
  clear h
  by_cases hv : vocB l = true
  case neg =>
    have hv' : vocB l = false := by simpa using hv
    have HR : Hid (allR l = 0#64) := by show _ = _; rw [allR, if_neg hv]
    have HV := hidIt hv'
    clear hv hv'
    go_enter Tryz.func29, Tryz.ntmps29
    go_wp2_with fail
    refine (r3valid_any l a c hn w H.out).mono ?_
    rintro e w1 ⟨rfl, hb⟩
    rw [HV.out]
    go_wp2_with fail
    go_ret
    exact ⟨ret_u64 (by rw [HR.out]; rfl), hb⟩
  case pos =>
  have hl6 : l.length ≤ 6 := by
    unfold vocB at hv
    rw [Bool.and_eq_true, decide_eq_true_eq] at hv
    exact hv.1
  have HR : Hid (allR l = wsetN (fun j => decide (j < 2 ^ l.length)) (2 ^ l.length)) := by
    show _ = _
    rw [allR, if_pos hv]
    refine set_ext fun j hj => ?_
    rw [allS, wset_bit _ j hj, wsetN_bit]
    simp [hj]
  have HV := hidIt hv
  have hp : 2 ^ l.length ≤ 64 := by
    have := Nat.pow_le_pow_right (n := 2) (by omega) hl6
    omega
  clear hv
  go_enter Tryz.func29, Tryz.ntmps29
  go_wp2_with fail
  refine (r3valid_any l a c hn w H.out).mono ?_
  rintro e w1 ⟨rfl, hb⟩
  have HB := hidIt hb
  rw [HV.out]
  clear hb
  have HCT := hidIt (fun w => r3count_any l.length a c hl6 w)
  obtain ⟨N, hN⟩ : ∃ N, N = 2 ^ l.length := ⟨_, rfl⟩
  rw [← hN] at HCT HR hp
  clear hN
  go_wp2_with fail
  go_loopw [3, 4] (fun s i wr => ∃ k : Nat, k ≤ N ∧ i = .int .i64 k ∧ wr = w1 ∧ s = bv (wsetN (fun j => decide (j < N)) k)) (fun _ i _ => N - (intOf i).toNat)
  case atStart => exact ⟨0, Nat.zero_le _, rfl, rfl, rfl⟩
  case round =>
    obtain ⟨k, hk, rfl, rfl, rfl⟩ := hrel
    by_cases hlt : k < N
    · have hlt' : (k : Int) < (N : Int) := by omega
      have hw : IntKind.u64.wrap (k : Int) = (k : Int) := by rw [IntKind.wrap_u64]; omega
      have HE : Hid (wsetN (fun j => decide (j < N)) (k + 1) = wsetN (fun j => decide (j < N)) k ||| BitVec.twoPow 64 k) := by
        show _ = _
        rw [wsetN_succ, if_pos (by simpa using hlt)]
      generalize wsetN (fun j => decide (j < N)) k = T at *
      go_wp2_with fail
      refine (HCT.out _).mono ?_
      rintro e w' ⟨rfl, rfl⟩
      go_wp2_with fail
      go_roundw
      case rel => exact ⟨k + 1, by omega, by go_num, by first | rfl | trivial, by rw [HE.out, bv, or_one T k (by omega)]⟩
      case measure => simp [intOf]; omega
    · obtain rfl : k = N := by omega
      go_wp2_with fail
      refine (HCT.out _).mono ?_
      rintro e w' ⟨rfl, rfl⟩
      go_wp2_with fail
      go_ret
      exact ⟨ret_u64 (by rw [HR.out]), HB.out⟩
end Go.Proofs.YtilkpjcbmllgmaaGreatDoor

namespace Go.Proofs.YtilkpjcbmllgmaaGreatDoor
set_option linter.unusedVariables false
set_option linter.unusedSimpArgs false
open Go Go.RowKit

theorem and1F : ∀ k : Fin 64, bits BinOp.and IntKind.i64 (k.val : Int) 1 = ((k.val % 2 : Nat) : Int) := by decide +kernel
theorem and1 (k : Nat) (h : k < 64) : bits BinOp.and IntKind.i64 (k : Int) 1 = ((k % 2 : Nat) : Int) := and1F ⟨k, h⟩

set_option maxRecDepth 100000 in
set_option maxHeartbeats 1000000 in
theorem r3half_any (S : BitVec 64) (d : Nat) (hd : d < 2) (n : Nat) (a : Option Addr) (c : Nat) (hn : n ≤ 6) (w : World) :
    Calls Tryz.prog 106 #[.slice a n c, bv S, .int .i64 (d : Int)] w fun e w' => e = .returned (bv (halfS S d (2 ^ n))) ∧ w' = w := by
  have hp : 2 ^ n ≤ 64 := by
    have := Nat.pow_le_pow_right (n := 2) (by omega) hn
    omega
  have HCT := hidIt (fun w => r3count_any n a c hn w)
  obtain ⟨N, hN⟩ : ∃ N, N = 2 ^ n := ⟨_, rfl⟩
  rw [← hN] at HCT hp ⊢
  clear hN
  have HHAS := hidIt (fun k hk w => r3has_any S k hk w)
  have hS := S.isLt
  go_enter Tryz.func106, Tryz.ntmps106
  go_wp2_with fail
  go_loopw [7, 8] (fun s i wr => ∃ k : Nat, k ≤ N ∧ i = .int .i64 k ∧ wr = w ∧ s = bv (halfS S d k)) (fun _ i _ => N - (intOf i).toNat)
  case atStart => exact ⟨0, Nat.zero_le _, rfl, rfl, by rw [halfS_zero]; rfl⟩
  case round =>
    obtain ⟨k, hk, rfl, rfl, rfl⟩ := hrel
    by_cases hlt : k < N
    · have hlt' : (k : Int) < (N : Int) := by omega
      have hk0 : (0 : Int) ≤ (k : Int) := by omega
      have HON := hidIt (halfS_on S d k (by omega) hd)
      have HOFF := hidIt (fun h => halfS_off S d k h hd)
      have HK := hidIt (HHAS.out k (by omega) wr)
      have hand := and1 k (by omega)
      have hz : ((((k % 2 : Nat) : Int) == (d : Int)) : Bool) = decide (k % 2 = d) := by
        by_cases e : k % 2 = d
        · simp [e]
        · have : ¬ ((k % 2 : Nat) : Int) = (d : Int) := by omega
          rw [decide_eq_false e, beq_eq_false_iff_ne]
          exact this
      obtain ⟨T, hT⟩ : ∃ T, T = halfS S d k := ⟨_, rfl⟩
      rw [← hT] at HON HOFF ⊢
      clear hT
      cases hb : S.getLsbD k
      · have HE : Hid (halfS S d (k + 1) = T) := HOFF.out (.inl hb)
        rw [hb] at HK
        clear hb HON HOFF
        go_wp2_with fail
        refine (HCT.out _).mono ?_
        rintro e w' ⟨rfl, rfl⟩
        go_wp2_with fail
        refine HK.out.mono ?_
        rintro e w' ⟨rfl, rfl⟩
        go_wp2_with fail
        go_roundw
        case rel => exact ⟨k + 1, by omega, by go_num, by first | rfl | trivial, by rw [HE.out]⟩
        case measure => simp [intOf]; omega
      · rw [hb] at HK
        by_cases e : k % 2 = d
        · have HE : Hid (halfS S d (k + 1) = T ||| BitVec.twoPow 64 (k / 2)) := HON.out hb e
          rw [decide_eq_true e] at hz
          have hw : IntKind.u64.wrap ((k : Int) / 2) = ((k / 2 : Nat) : Int) := by rw [IntKind.wrap_u64]; omega
          clear hb HON HOFF e
          go_wp2_with fail
          refine (HCT.out _).mono ?_
          rintro e w' ⟨rfl, rfl⟩
          go_wp2_with fail
          refine HK.out.mono ?_
          rintro e w' ⟨rfl, rfl⟩
          go_wp2_with fail
          go_roundw
          case rel => exact ⟨k + 1, by omega, by go_num, by first | rfl | trivial, by rw [HE.out, bv, or_one T (k / 2) (by omega)]⟩
          case measure => simp [intOf]; omega
        · have HE : Hid (halfS S d (k + 1) = T) := HOFF.out (.inr e)
          rw [decide_eq_false e] at hz
          clear hb HON HOFF e
          go_wp2_with fail
          refine (HCT.out _).mono ?_
          rintro e w' ⟨rfl, rfl⟩
          go_wp2_with fail
          refine HK.out.mono ?_
          rintro e w' ⟨rfl, rfl⟩
          go_wp2_with fail
          go_roundw
          case rel => exact ⟨k + 1, by omega, by go_num, by first | rfl | trivial, by rw [HE.out]⟩
          case measure => simp [intOf]; omega
    · obtain rfl : k = N := by omega
      go_wp2_with fail
      refine (HCT.out _).mono ?_
      rintro e w' ⟨rfl, rfl⟩
      go_wp2_with fail
      go_ret
      exact ⟨rfl, rfl⟩

set_option maxRecDepth 100000 in
set_option maxHeartbeats 1000000 in
theorem r3pair_any (S : Nat → Prop) (op : Int) (hop : I64 op) (f g : Tree) (vf vg : Value) (w : World) (hf : FormIn w S vf f) (hg : FormIn w S vg g) (hS : ∀ i, w.heap.size ≤ i → S i) :
    Calls Tryz.prog 107 #[.int .i64 op, vf, vg] w (CPost S (.node op ⟨#[]⟩ [f, g]) w) := by
  obtain ⟨fa, fc, fb, fo, rfl, hfop, hfn, hfl, hfc, -, -⟩ := hf.form
  obtain ⟨ga, gc, gb, go, rfl, hgop, hgn, hgl, hgc, -, -⟩ := hg.form
  have HF := hidIt hf
  have HG := hidIt hg
  have HS := hidIt hS
  unfold maxLen at hfc hgc
  clear hf hg hS hfop hgop hfn hgn
  go_enter Tryz.func107, Tryz.ntmps107
  go_wp2_with fail
  have hb : Below w.heap.size w ((((w.alloc (.cells #[.int .i64 f.op, .string f.name, .slice fa f.args.length fc] 24)).alloc (.cells #[.int .i64 g.op, .string g.name, .slice ga g.args.length gc] 24)).alloc (.cells #[.int .i64 op, .string ⟨#[]⟩, .slice (some ⟨w.heap.size + 1 + 1 + 1, 0, none⟩) 2 2] 24)).alloc (.cells #[.int .i64 f.op, .string f.name, .slice fa f.args.length fc, .int .i64 g.op, .string g.name, .slice ga g.args.length gc] 24)) :=
    ((((Below.refl _ _).alloc (Nat.le_refl _) _).alloc (by simp) _).alloc (by simp; omega) _).alloc (by simp; omega) _
  refine bodyPost_ret (v := .agg #[.int .i64 op, .string ⟨#[]⟩, .slice (some ⟨w.heap.size + 1 + 1 + 1, 0, none⟩) 2 2]) (by simp [results, Tryz.results107, go_sem]) rfl ?_
  exact ⟨_, rfl, FormIn.mk (FormsIn.two (heap_alloc_at (by simp)) (HS.out _ (by omega)) (HF.out.go hb) (HG.out.go hb)) rfl hop nil_le (Nat.le_refl _) (by unfold maxLen; omega), hb⟩
end Go.Proofs.YtilkpjcbmllgmaaGreatDoor

namespace Go.Proofs.YtilkpjcbmllgmaaGreatDoor
set_option linter.unusedVariables false
set_option linter.unusedSimpArgs false
open Go Go.RowKit

theorem th_kind : ∀ (voc : List ByteArray) (S : BitVec 64), (thT voc S).all kindB = true := by
  have hch : ∀ (s : ByteArray) (y n : Tree), y.all kindB = true → n.all kindB = true → (choiceT s y n).all kindB = true := by
    intro s y n hy hn
    unfold choiceT
    split
    · rfl
    split
    · simp only [Tree.all, allL, hn, Bool.and_true]; rfl
    split
    · rfl
    split
    · simp only [Tree.all, allL, hn, Bool.and_true]; rfl
    split
    · simp only [Tree.all, allL, hy, Bool.and_true]; rfl
    split
    · simp only [Tree.all, allL, hy, Bool.and_true]; rfl
    · simp only [Tree.all, allL, hy, hn, Bool.and_true]; rfl
  intro voc
  induction voc with
  | nil =>
    intro S
    unfold thT
    split <;> rfl
  | cons x rest ih =>
    intro S
    unfold thT
    split
    · rfl
    split
    · rfl
    split
    · exact ih _
    · exact hch _ _ _ (ih _) (ih _)

/-- What the reference's theory leaves. -/
def RThOk (voc : List ByteArray) : Prop := ∀ (S : BitVec 64) (a : Option Addr) (c : Nat) (w : World), StrsIn w (fun _ => True) a voc → voc.length ≤ c → c ≤ maxLen →
  Calls Tryz.prog 85 #[.slice a voc.length c, bv S] w (CPost (fun i => w.heap.size ≤ i) (thT voc (S &&& allS voc.length)) w)

theorem allR_ok {l : List ByteArray} (h : vocB l = true) : allR l = allS l.length := by rw [allR, if_pos h]

/-- pair in the walk. -/
theorem rel_pair {W wx : World} (hC : Ext W wx) {S : Nat → Prop} {op : Int} (hop : I64 op) {f g : Tree} {vf vg : Value} (hf : FormIn wx S vf f) (hg : FormIn wx S vg g) (hS : ∀ i, W.heap.size ≤ i → S i) :
    Calls Tryz.prog 107 #[.int .i64 op, vf, vg] wx fun e w'' => ∃ u, e = .returned u ∧ Ext W w'' ∧ Grows wx w'' ∧ Own.relR (Own.rA (isForm S (.node op ⟨#[]⟩ [f, g]))) wx u w'' :=
  Own.callA hC ((r3pair_any S op hop f g vf vg wx hf hg (fun i hi => hS i (Nat.le_trans (Below.size hC) hi))).mono fun _ _ ⟨u, he, hf, hb⟩ => ⟨u, he, hf, hb⟩)

set_option maxRecDepth 100000 in
set_option maxHeartbeats 8000000 in
theorem r3theory_any : ∀ voc : List ByteArray, vocB voc = true → RThOk voc := by
  intro voc
  induction voc with
  | nil =>
    intro hv S a c w h hlc hcm
    have HALL := fun (w : World) (h : StrsIn w (fun _ => True) a []) => r3all_any [] a c (by simp) w h
    rw [allR_ok hv] at HALL
    have HNEW := hidIt (heap_alloc_new w (.cells #[.int .i64 0, .string ⟨#[]⟩, .slice none 0 0] 24))
    have HB0 : Hid (Below w.heap.size w (w.alloc (.cells #[.int .i64 0, .string ⟨#[]⟩, .slice none 0 0] 24))) := Grows.alloc _ _
    have HS0 := hidIt (h.go HB0.out)
    have HALL := hidIt HALL
    have HAND := hidIt (bits_and_bv S (allS 0))
    have HIN := hidIt (inS_all 0 S)
    simp only [List.length_nil] at *
    clear h hv
    have he0 : ((0#64).toNat : Int) = 0 := rfl
    obtain ⟨Z, hZ⟩ : ∃ Z, Z = S &&& allS 0 := ⟨_, rfl⟩
    rw [← hZ] at HAND HIN ⊢
    have hz := eq_bv Z 0#64
    rw [he0] at hz
    clear hZ he0
    go_enter Tryz.func85, Tryz.ntmps85
    go_wp2_with fail
    refine (HALL.out _ HS0.out).mono ?_
    rintro e w1 ⟨rfl, hb⟩
    have HB1 := hidIt (HB0.out.trans (Below.mono hb HB0.out.size))
    have HK1 := hidIt (blk_kept HNEW.out hb)
    have HS1 := hidIt (HS0.out.go hb)
    clear hb
    obtain ⟨r0, r1, r2⟩ := cell_of3 HK1.out
    obtain ⟨f0, f1, f2⟩ := cells_free HK1.out
    have hrl := lt_of_block HK1.out
    by_cases h0 : Z = 0#64
    · have HT : Hid (thT [] Z = .node 2 ⟨#[]⟩ []) := by show _ = _; rw [thT, if_pos h0]
      rw [decide_eq_true h0] at hz
      have hz' : ((bits .and .u64 (S.toNat : Int) ((allS 0).toNat : Int) == 0) : Bool) = true := by rw [HAND.out]; exact hz
      clear h0 hz
      go_wp2_with fail
      refine bodyPost_ret (v := .agg #[.int .i64 2, .string ⟨#[]⟩, .slice none 0 0]) (by simp [results, Tryz.results85, go_sem, r0, r1, r2, hrl]) rfl ?_
      rw [HT.out]
      exact CPost.stored (Nat.le_refl _) (FormIn.mk (op := 2) (FormsIn.nil none) rfl (by unfold I64; omega) nil_le (Nat.le_refl _) (Nat.zero_le _)) HB1.out
    · have HT : Hid (thT [] Z = .node 1 ⟨#[]⟩ []) := by show _ = _; rw [thT, if_neg h0]
      have hall := eq_bv Z (allS 0)
      rw [decide_eq_true (inS_zero HIN.out h0)] at hall
      rw [decide_eq_false h0] at hz
      have hz' : ((bits .and .u64 (S.toNat : Int) ((allS 0).toNat : Int) == 0) : Bool) = false := by rw [HAND.out]; exact hz
      have hall' : ((bits .and .u64 (S.toNat : Int) ((allS 0).toNat : Int) == ((allS 0).toNat : Int)) : Bool) = true := by rw [HAND.out]; exact hall
      clear h0 hz hall r0 r1 r2 f0 f1 f2 hrl
      go_wp2_with fail
      refine (HALL.out _ HS1.out).mono ?_
      rintro e w2 ⟨rfl, hb⟩
      have HB2 := hidIt (HB1.out.trans (Below.mono hb HB1.out.size))
      have HK2 := hidIt (blk_kept HK1.out hb)
      have HS2 := hidIt (HS1.out.go hb)
      clear hb
      go_wp2_with fail
      refine (HALL.out _ HS2.out).mono ?_
      rintro e w3 ⟨rfl, hb⟩
      have HB3 := hidIt (HB2.out.trans (Below.mono hb HB2.out.size))
      have HK3 := hidIt (blk_kept HK2.out hb)
      clear hb
      obtain ⟨r0, r1, r2⟩ := cell_of3 HK3.out
      obtain ⟨f0, f1, f2⟩ := cells_free HK3.out
      have hrl := lt_of_block HK3.out
      go_wp2_with fail
      refine bodyPost_ret (v := .agg #[.int .i64 1, .string ⟨#[]⟩, .slice none 0 0]) (by simp [results, Tryz.results85, go_sem, r0, r1, r2, hrl]) rfl ?_
      rw [HT.out]
      exact CPost.stored (Nat.le_refl _) (FormIn.mk (op := 1) (FormsIn.nil none) rfl (by unfold I64; omega) nil_le (Nat.le_refl _) (Nat.zero_le _)) HB3.out
  | cons x rest ih =>
    intro hv S a c w h hlc hcm
    have hv6 := vocB_len hv
    have hvt := vocB_tail hv
    have hnd := vocB_nodup hvt
    have HTH := hidIt (ih hvt)
    have HALL := fun (w : World) (h : StrsIn w (fun _ => True) a (x :: rest)) => r3all_any (x :: rest) a c (by omega) w h
    rw [allR_ok hv] at HALL
    have HNEW := hidIt (heap_alloc_new w (.cells #[.int .i64 0, .string ⟨#[]⟩, .slice none 0 0] 24))
    have HB0 : Hid (Below w.heap.size w (w.alloc (.cells #[.int .i64 0, .string ⟨#[]⟩, .slice none 0 0] 24))) := Grows.alloc _ _
    have hsz0 : w.heap.size < (w.alloc (.cells #[.int .i64 0, .string ⟨#[]⟩, .slice none 0 0] 24)).heap.size := by simp
    have HS0 := hidIt (h.go HB0.out)
    have HALL := hidIt HALL
    have HY0 := hidIt (halfS_yes S rest.length (by simp at hv6; omega))
    have HN0 := hidIt (halfS_no S rest.length (by simp at hv6; omega))
    simp only [List.length_cons] at *
    have HAND := hidIt (bits_and_bv S (allS (rest.length + 1)))
    have HHALF := hidIt (fun d hd w => r3half_any S d hd (rest.length + 1) a c hv6 w)
    have HIN := hidIt (inS_all (rest.length + 1) S)
    have he0 : ((0#64).toNat : Int) = 0 := rfl
    obtain ⟨Z, hZ⟩ : ∃ Z, Z = S &&& allS (rest.length + 1) := ⟨_, rfl⟩
    rw [← hZ] at HAND HIN HY0 HN0 ⊢
    clear hZ
    have hz := eq_bv Z 0#64
    rw [he0] at hz
    have hv6' : (rest.length : Int) + 1 ≤ 6 := by omega
    clear he0
    go_enter Tryz.func85, Tryz.ntmps85
    go_wp2_with fail
    generalize (w.alloc (.cells #[.int .i64 0, .string ⟨#[]⟩, .slice none 0 0] 24)) = w0 at *
    refine (HALL.out _ HS0.out).mono ?_
    rintro e w1 ⟨rfl, hb⟩
    have HB1 := hidIt (HB0.out.trans (Below.mono hb HB0.out.size))
    have HK1 := hidIt (blk_kept HNEW.out hb)
    have HS1 := hidIt (HS0.out.go hb)
    have hsz1 := Nat.lt_of_lt_of_le hsz0 hb.size
    clear hb HS0 HB0 HNEW hsz0 h
    by_cases h0 : Z = 0#64
    · have HT : Hid (thT (x :: rest) Z = .node 2 ⟨#[]⟩ []) := by show _ = _; rw [thT, if_pos h0]
      rw [decide_eq_true h0] at hz
      have hz' : ((bits .and .u64 (S.toNat : Int) ((allS (rest.length + 1)).toNat : Int) == 0) : Bool) = true := by rw [HAND.out]; exact hz
      obtain ⟨r0, r1, r2⟩ := cell_of3 HK1.out
      obtain ⟨f0, f1, f2⟩ := cells_free HK1.out
      have hrl := lt_of_block HK1.out
      clear h0 hz
      go_wp2_with fail
      refine bodyPost_ret (v := .agg #[.int .i64 2, .string ⟨#[]⟩, .slice none 0 0]) (by simp [results, Tryz.results85, go_sem, r0, r1, r2, hrl]) rfl ?_
      rw [HT.out]
      exact CPost.stored (Nat.le_refl _) (FormIn.mk (op := 2) (FormsIn.nil none) rfl (by unfold I64; omega) nil_le (Nat.le_refl _) (Nat.zero_le _)) HB1.out
    have hz' : ((bits .and .u64 (S.toNat : Int) ((allS (rest.length + 1)).toNat : Int) == 0) : Bool) = false := by rw [HAND.out, hz, decide_eq_false h0]
    clear hz
    go_wp2_with fail
    refine (HALL.out _ HS1.out).mono ?_
    rintro e w2 ⟨rfl, hb⟩
    have HB2 := hidIt (HB1.out.trans (Below.mono hb HB1.out.size))
    have HK2 := hidIt (blk_kept HK1.out hb)
    have HS2 := hidIt (HS1.out.go hb)
    have hsz2 := Nat.lt_of_lt_of_le hsz1 hb.size
    clear hb HS1 HB1 HK1 hsz1
    go_wp2_with fail
    refine (HALL.out _ HS2.out).mono ?_
    rintro e w3 ⟨rfl, hb⟩
    have HB3 := hidIt (HB2.out.trans (Below.mono hb HB2.out.size))
    have HK3 := hidIt (blk_kept HK2.out hb)
    have HS3 := hidIt (HS2.out.go hb)
    have hsz3 := Nat.lt_of_lt_of_le hsz2 hb.size
    clear hb HS2 HB2 HK2 hsz2
    have hall := eq_bv Z (allS (rest.length + 1))
    by_cases h1 : Z = allS (rest.length + 1)
    · have HT : Hid (thT (x :: rest) Z = .node 1 ⟨#[]⟩ []) := by show _ = _; rw [thT, if_neg h0, if_pos h1]
      rw [decide_eq_true h1] at hall
      have hall' : ((bits .and .u64 (S.toNat : Int) ((allS (rest.length + 1)).toNat : Int) == ((allS (rest.length + 1)).toNat : Int)) : Bool) = true := by rw [HAND.out]; exact hall
      obtain ⟨r0, r1, r2⟩ := cell_of3 HK3.out
      obtain ⟨f0, f1, f2⟩ := cells_free HK3.out
      have hrl := lt_of_block HK3.out
      clear h0 h1 hall
      go_wp2_with fail
      refine bodyPost_ret (v := .agg #[.int .i64 1, .string ⟨#[]⟩, .slice none 0 0]) (by simp [results, Tryz.results85, go_sem, r0, r1, r2, hrl]) rfl ?_
      rw [HT.out]
      exact CPost.stored (Nat.le_refl _) (FormIn.mk (op := 1) (FormsIn.nil none) rfl (by unfold I64; omega) nil_le (Nat.le_refl _) (Nat.zero_le _)) HB3.out
    have hall' : ((bits .and .u64 (S.toNat : Int) ((allS (rest.length + 1)).toNat : Int) == ((allS (rest.length + 1)).toNat : Int)) : Bool) = false := by rw [HAND.out, hall, decide_eq_false h1]
    clear hall
    -- the parts
    obtain ⟨b, off, rfl, x0, hxs⟩ := HS3.out.at 0 (by simp)
    rw [List.getElem_cons_zero] at x0 hxs
    rw [Nat.add_zero] at x0
    have HTL := hidIt (StrsIn.tail HS3.out)
    have HXS := hidIt hxs
    have HYI := hidIt (inS_splitY HIN.out)
    have HNI := hidIt (inS_splitN HIN.out)
    have HTT : Hid (thT (x :: rest) Z = if splitY Z = splitN Z then thT rest (splitY Z) else choiceT x (thT rest (splitY Z)) (thT rest (splitN Z))) := by show _ = _; rw [thT, if_neg h0, if_neg h1]
    have HINJ : Hid (sameP (thT rest (splitY Z)) (thT rest (splitN Z)) = decide (splitY Z = splitN Z)) := by
      show _ = _
      by_cases e : splitY Z = splitN Z
      · rw [sameP_true (by rw [e]), decide_eq_true e]
      · rw [sameP_false (fun e2 => e (th_inj hnd (by omega) HYI.out HNI.out e2)), decide_eq_false e]
    have HKY := hidIt (th_kind rest (splitY Z))
    have HKN := hidIt (th_kind rest (splitN Z))
    have HMY := hidIt (inS_mask HYI.out)
    have HMN := hidIt (inS_mask HNI.out)
    clear hxs h0 h1 HALL HIN hnd hvt hv
    generalize splitY Z = Y at *
    generalize splitN Z = N at *
    -- a and no
    have HBX : Hid (Below w3.heap.size w3 (((w3.alloc (.cells #[.int .i64 3, .string x, .slice none 0 0] 24)).alloc (.cells #[.int .i64 3, .string x, .slice none 0 0] 24)).alloc (.cells #[.int .i64 4, .string ⟨#[]⟩, .slice (some ⟨w3.heap.size + 1, 0, none⟩) 1 1] 24))) := (((Below.refl _ _).alloc (Nat.le_refl _) _).alloc (by simp) _).alloc (by simp; omega) _
    have HK5 := hidIt (blk_kept (blk_kept (heap_alloc_new w3 (.cells #[.int .i64 3, .string x, .slice none 0 0] 24)) (Grows.alloc _ (.cells #[.int .i64 3, .string x, .slice none 0 0] 24))) (Grows.alloc _ (.cells #[.int .i64 4, .string ⟨#[]⟩, .slice (some ⟨w3.heap.size + 1, 0, none⟩) 1 1] 24)))
    have HKN5 : Hid ((((w3.alloc (.cells #[.int .i64 3, .string x, .slice none 0 0] 24)).alloc (.cells #[.int .i64 3, .string x, .slice none 0 0] 24)).alloc (.cells #[.int .i64 4, .string ⟨#[]⟩, .slice (some ⟨w3.heap.size + 1, 0, none⟩) 1 1] 24)).heap[w3.heap.size + 1]? = some (.cells #[.int .i64 3, .string x, .slice none 0 0] 24 (0, 0))) := blk_kept (heap_alloc_at (by simp)) (Grows.alloc _ _)
    have HK6 : Hid ((((w3.alloc (.cells #[.int .i64 3, .string x, .slice none 0 0] 24)).alloc (.cells #[.int .i64 3, .string x, .slice none 0 0] 24)).alloc (.cells #[.int .i64 4, .string ⟨#[]⟩, .slice (some ⟨w3.heap.size + 1, 0, none⟩) 1 1] 24)).heap[w3.heap.size + 1 + 1]? = some (.cells #[.int .i64 4, .string ⟨#[]⟩, .slice (some ⟨w3.heap.size + 1, 0, none⟩) 1 1] 24 (0, 0))) := heap_alloc_at (by simp)
    obtain ⟨T, hT⟩ : ∃ T, T = thT rest Y := ⟨_, rfl⟩
    obtain ⟨F, hF⟩ : ∃ F, F = thT rest N := ⟨_, rfl⟩
    have HTHY := hidIt (HTH.out Y)
    have HTHN := hidIt (HTH.out N)
    rw [HMY.out, ← hT] at HTHY
    rw [HMN.out, ← hF] at HTHN
    rw [← hT, ← hF] at HTT HINJ
    rw [← hT] at HKY
    rw [← hF] at HKN
    generalize hn : rest.length = n at *
    have HN := hidIt hn
    have HHY := hidIt (fun w => HHALF.out 1 (by omega) w)
    have HHN := hidIt (fun w => HHALF.out 0 (by omega) w)
    rw [HY0.out] at HHY
    rw [HN0.out] at HHN
    have hcm' := hcm
    unfold maxLen at hcm'
    clear hT hF hn HTH HHALF HMY HMN HY0 HN0 HYI HNI
    go_wp2_with fail
    clear x0
    generalize (((w3.alloc (.cells #[.int .i64 3, .string x, .slice none 0 0] 24)).alloc (.cells #[.int .i64 3, .string x, .slice none 0 0] 24)).alloc (.cells #[.int .i64 4, .string ⟨#[]⟩, .slice (some ⟨w3.heap.size + 1, 0, none⟩) 1 1] 24)) = W5 at *
    have HB5 := hidIt (HB3.out.trans (Below.mono HBX.out HB3.out.size))
    have HK4 := hidIt (blk_kept HK3.out HBX.out)
    have HTL5 := hidIt (HTL.out.go HBX.out)
    have hsz5 : w.heap.size < W5.heap.size := Nat.lt_of_lt_of_le hsz3 HBX.out.size
    have HTL1 : Hid (n = 0 → StrsIn W5 (fun _ => True) (some ⟨b, off, none⟩) rest) := fun h => by
      have h1 := HN.out
      obtain rfl : rest = [] := List.eq_nil_of_length_eq_zero (by omega)
      exact StrsIn.nil _
    have HA5 : Hid (FormIn W5 (fun i => w.heap.size ≤ i ∧ i ≠ w.heap.size) (.agg #[.int .i64 3, .string x, .slice none 0 0]) (.node 3 x [])) := FormIn.mk (FormsIn.nil none) rfl (i64_small (by omega) (by omega)) HXS.out (Nat.le_refl _) (Nat.zero_le _)
    have HNA5 : Hid (FormIn W5 (fun i => w.heap.size ≤ i ∧ i ≠ w.heap.size) (.agg #[.int .i64 4, .string ⟨#[]⟩, .slice (some ⟨w3.heap.size + 1, 0, none⟩) 1 1]) (.node 4 ⟨#[]⟩ [.node 3 x []])) := FormIn.mk (FormsIn.one HKN5.out ⟨show w.heap.size ≤ w3.heap.size + 1 by omega, show w3.heap.size + 1 ≠ w.heap.size by omega⟩ HA5.out) rfl (i64_small (by omega) (by omega)) nil_le (Nat.le_refl _) (by unfold maxLen; omega)
    clear HBX HB3 HK3 HS3 HTL HKN5 hall' hz'
    have hl5 := lt_of_block HK5.out
    have hl6 := lt_of_block HK6.out
    generalize w3.heap.size = p5 at *
    haveI := Ext.nonempty W5
    have go7 : ∀ (a' : Option Addr) (c' : Nat), StrsIn W5 (fun _ => True) a' rest → n ≤ c' → c' ≤ maxLen → ∀ wx, Ext W5 wx → 
        (Calls Tryz.prog 85 #[.slice a' n c', bv Y] wx fun e w'' => ∃ u, e = .returned u ∧ Ext W5 w'' ∧ Grows wx w'' ∧ Own.relR (Own.rA (isForm (fun i => w.heap.size ≤ i ∧ i ≠ w.heap.size) T)) wx u w'') ∧
        (Calls Tryz.prog 85 #[.slice a' n c', bv N] wx fun e w'' => ∃ u, e = .returned u ∧ Ext W5 w'' ∧ Grows wx w'' ∧ Own.relR (Own.rA (isForm (fun i => w.heap.size ≤ i ∧ i ≠ w.heap.size) F)) wx u w'') := fun a' c' h1 h2 h3 wx hC =>
      ⟨Own.callA hC ((HTHY.out a' c' wx (h1.go hC) h2 h3).mono fun _ _ ⟨u, he, hf, hb⟩ => ⟨u, he, hf.mono fun i _ hi => by have := Below.size hC; exact ⟨by omega, by omega⟩, hb⟩),
       Own.callA hC ((HTHN.out a' c' wx (h1.go hC) h2 h3).mono fun _ _ ⟨u, he, hf, hb⟩ => ⟨u, he, hf.mono fun i _ hi => by have := Below.size hC; exact ⟨by omega, by omega⟩, hb⟩)⟩
    have HGO := hidIt go7
    have HCL : Hid ((c = 1 ∧ n = 0) ∨ (c ≠ 1 ∧ n ≤ c - 1)) := (show n + 1 ≤ c → ((c = 1 ∧ n = 0) ∨ (c ≠ 1 ∧ n ≤ c - 1)) by omega) hlc
    clear go7 HTHY HTHN
    have h1n : (1 : Int) ≤ (n : Int) + 1 := by omega
    rcases HCL.out with ⟨rfl, rfl⟩ | ⟨hc1, hc2⟩
    case inl =>
      refine Own.wp_region_tail 14 (Ext W5) Grows (Own.relTab [(34, Own.rA (Own.isVal (bv Y))), (35, Own.rA (isForm (fun i => w.heap.size ≤ i ∧ i ≠ w.heap.size) T)), (40, Own.rA (Own.isVal (bv N))), (41, Own.rA (isForm (fun i => w.heap.size ≤ i ∧ i ≠ w.heap.size) F)), (7, Own.rO (Own.isBox W5.heap.size)), (8, Own.rO (Own.isBox W5.heap.size))]) (by kernel_rfl) (by kernel_rfl) (by kernel_rfl) (by kernel_rfl) (by kernel_rfl) (by kernel_rfl) (Own.stableO_cons (Own.isVal_up _) (Own.stableO_cons (isForm_up _ _) (Own.stableO_cons (Own.isVal_up _) (Own.stableO_cons (isForm_up _ _) (Own.stableO_cons (Own.isBox_up _) (Own.stableO_cons (Own.isBox_up _) (Own.stableO_nil _))))))) (Ext.start W5) ?_
      simp only [Own.idleTail]
      repeat (
        refine' Own.walkR_plain (by kernel_rfl) rfl rfl (fun wx hC hL => ?_) ?_
        rotate_left
        · (go_simp; exact ⟨rfl, rfl⟩)
        simp only [Act.put, List.setIfInBounds_toArray, List.set_cons_zero, List.set_cons_succ])
      refine Own.walkR_rel (by kernel_rfl) rfl rfl (of_decide_eq_true (by kernel_rfl)) (fun wx hC hL => ?_) (fun v hv => ?_)
      · go_simp
        exact Own.callV hC (HHY.out wx)
      obtain ⟨_, _, rfl⟩ := hv
      simp only [Act.put, List.setIfInBounds_toArray, List.set_cons_zero, List.set_cons_succ]
      refine Own.walkR_rel (by kernel_rfl) rfl rfl (of_decide_eq_true (by kernel_rfl)) (fun wx hC hL => ?_) (fun v hv => ?_)
      · go_simp
        exact (HGO.out _ _ (HTL1.out rfl) (Nat.le_refl _) (by unfold maxLen; omega) wx hC).1
      obtain ⟨_, _, hv⟩ := hv
      obtain ⟨a7, c7, _, _, rfl, -⟩ := FormIn.form hv
      clear hv
      simp only [Act.put, List.setIfInBounds_toArray, List.set_cons_zero, List.set_cons_succ]
      repeat (
        refine' Own.walkR_plain (by kernel_rfl) rfl rfl (fun wx hC hL => ?_) ?_
        rotate_left
        · (go_simp; exact ⟨rfl, rfl⟩)
        simp only [Act.put, List.setIfInBounds_toArray, List.set_cons_zero, List.set_cons_succ])
      refine Own.walkR_rel (by kernel_rfl) rfl rfl (of_decide_eq_true (by kernel_rfl)) (fun wx hC hL => ?_) (fun v hv => ?_)
      · go_simp
        exact Own.callV hC (HHN.out wx)
      obtain ⟨_, _, rfl⟩ := hv
      simp only [Act.put, List.setIfInBounds_toArray, List.set_cons_zero, List.set_cons_succ]
      refine Own.walkR_rel (by kernel_rfl) rfl rfl (of_decide_eq_true (by kernel_rfl)) (fun wx hC hL => ?_) (fun v hv => ?_)
      · go_simp
        exact (HGO.out _ _ (HTL1.out rfl) (Nat.le_refl _) (by unfold maxLen; omega) wx hC).2
      obtain ⟨_, _, hv⟩ := hv
      obtain ⟨a8, c8, _, _, rfl, -⟩ := FormIn.form hv
      clear hv
      simp only [Act.put, List.setIfInBounds_toArray, List.set_cons_zero, List.set_cons_succ]
      refine Own.walkR_rel (by kernel_rfl) rfl rfl (of_decide_eq_true (by kernel_rfl)) (fun wx hC hL => ?_) (fun v hv => ?_)
      · go_simp
        exact Own.boxO hC (Nat.le_refl _)
      obtain ⟨_, _, nb7, rfl, hnb7, -⟩ := hv
      simp only [Act.put, List.setIfInBounds_toArray, List.set_cons_zero, List.set_cons_succ]
      refine Own.walkR_rel (by kernel_rfl) rfl rfl (of_decide_eq_true (by kernel_rfl)) (fun wx hC hL => ?_) (fun v hv => ?_)
      · go_simp
        exact Own.boxO hC (Nat.le_refl _)
      obtain ⟨_, _, nb8, rfl, hnb8, -⟩ := hv
      simp only [Act.put, List.setIfInBounds_toArray, List.set_cons_zero, List.set_cons_succ]
      refine Own.walkR_idle rfl (fun wx _ => Below.refl _ _) ?_
      refine Own.walkR_idle rfl (fun wx _ => Below.refl _ _) ?_
      refine fun w20 hE20 hK => ?_
      have h35 : isForm (fun i => w.heap.size ≤ i ∧ i ≠ w.heap.size) T (.agg #[.int .i64 T.op, .string T.name, .slice a7 T.args.length c7]) w20 := hK.get 35 (by simp [Own.more]) rfl rfl
      have h41 : isForm (fun i => w.heap.size ≤ i ∧ i ≠ w.heap.size) F (.agg #[.int .i64 F.op, .string F.name, .slice a8 F.args.length c8]) w20 := hK.get 41 (by simp [Own.more]) rfl rfl
      obtain ⟨_, e7, -, hz7⟩ : Own.isBox W5.heap.size (.pointer (some ⟨nb7, 0, none⟩)) w20 := hK.get 7 (by simp [Own.more]) rfl rfl
      injection e7 with e7
      injection e7 with e7
      injection e7 with e7
      subst e7
      obtain ⟨_, e8, -, hz8⟩ : Own.isBox W5.heap.size (.pointer (some ⟨nb8, 0, none⟩)) w20 := hK.get 8 (by simp [Own.more]) rfl rfl
      injection e8 with e8
      injection e8 with e8
      injection e8 with e8
      subst e8
      have hne : nb7 ≠ nb8 := Own.apart_ptr (hK.ne 7 8 (by simp [Own.more]) (by simp [Own.more]) (by decide) rfl rfl rfl rfl rfl rfl)
      clear hK
      simp only [List.drop_succ_cons, List.drop_zero]
      have hy : FormIn w20 (fun i => (w.heap.size ≤ i ∧ i ≠ w.heap.size) ∧ i ≠ nb7 ∧ i ≠ nb8) (.agg #[.int .i64 T.op, .string T.name, .slice a7 T.args.length c7]) T := (FormIn.unbox hz8 (by intro _ _ e; cases e) (FormIn.unbox hz7 (by intro _ _ e; cases e) h35 HKY.out) HKY.out).mono fun i _ h => ⟨h.1.1, h.1.2, h.2⟩
      have hn' : FormIn w20 (fun i => (w.heap.size ≤ i ∧ i ≠ w.heap.size) ∧ i ≠ nb7 ∧ i ≠ nb8) (.agg #[.int .i64 F.op, .string F.name, .slice a8 F.args.length c8]) F := (FormIn.unbox hz8 (by intro _ _ e; cases e) (FormIn.unbox hz7 (by intro _ _ e; cases e) h41 HKN.out) HKN.out).mono fun i _ h => ⟨h.1.1, h.1.2, h.2⟩
      have hs7 := set_three w20 nb7 (.int .i64 T.op) (.string T.name) (.slice a7 T.args.length c7)
      have hz7a := Own.set_blk3 (x' := .int .i64 T.op) (y' := .string T.name) (z' := .slice a7 T.args.length c7) hz7
      have hl7 := lt_of_block hz7
      have hl8 := lt_of_block hz8
      have hz8a := hz8
      rw [← hs7.block nb8 hl8 (fun e => hne (by injection e with e; exact e.symm))] at hz8a
      have hs8 := set_three (((w20.setCell ⟨nb7, 0, none⟩ (.int .i64 T.op)).setCell ⟨nb7, 1, none⟩ (.string T.name)).setCell ⟨nb7, 2, none⟩ (.slice a7 T.args.length c7)) nb8 (.int .i64 F.op) (.string F.name) (.slice a8 F.args.length c8)
      have hz8b := Own.set_blk3 (x' := .int .i64 F.op) (y' := .string F.name) (z' := .slice a8 F.args.length c8) hz8a
      have hz7b := hz7a
      rw [← hs8.block nb7 (lt_of_block hz7a) (fun e => hne (by injection e))] at hz7b
      have HB21 := hidIt (below_of_only (b := nb7) (only_new (only_new (only_of_below (HB5.out.trans (Below.mono hE20 HB5.out.size)) (some nb7)) hs7 (by omega)) hs8 (by omega)) (by omega))
      have HST := hidIt (fun (i : Nat) (h7 : i ≠ nb7) (h8 : i ≠ nb8) (hl : i < w20.heap.size) => (hs8.block i (Nat.lt_of_lt_of_le hl hs7.size) (fun e => h8 (by injection e))).trans (hs7.block i hl (fun e => h7 (by injection e))))
      have hkk : ∀ (q : Nat) (o : Obj), W5.heap[q]? = some o → q ≠ nb7 ∧ q ≠ nb8 := fun q o h => by have := lt_of_block h; exact ⟨by omega, by omega⟩
      have kp := fun (q : Nat) (o : Obj) (h : W5.heap[q]? = some o) => (HST.out q (hkk q o h).1 (hkk q o h).2 (lt_of_block (blk_kept h hE20))).trans (blk_kept h hE20)
      have HA21 := hidIt (kp _ _ HK5.out)
      have HNO21 := hidIt (kp _ _ HK6.out)
      have HR21 := hidIt (kp _ _ HK4.out)
      have hAf : FormIn w20 (fun i => (w.heap.size ≤ i ∧ i ≠ w.heap.size) ∧ i ≠ nb7 ∧ i ≠ nb8) _ _ := (HNA5.out.mono (S' := fun i => (w.heap.size ≤ i ∧ i ≠ w.heap.size) ∧ i ≠ nb7 ∧ i ≠ nb8) fun i hi h => ⟨h, by omega, by omega⟩).go hE20
      have HNF21 := hidIt ((hAf.kept fun i hi hl => HST.out i hi.2.1 hi.2.2 hl).mono (S' := (fun i => w.heap.size ≤ i ∧ i ≠ w.heap.size)) fun i _ hi => hi.1)
      have HY21 := hidIt ((hy.kept fun i hi hl => HST.out i hi.2.1 hi.2.2 hl).mono (S' := (fun i => w.heap.size ≤ i ∧ i ≠ w.heap.size)) fun i _ hi => hi.1)
      have HN21 := hidIt ((hn'.kept fun i hi hl => HST.out i hi.2.1 hi.2.2 hl).mono (S' := (fun i => w.heap.size ≤ i ∧ i ≠ w.heap.size)) fun i _ hi => hi.1)
      have HZ7 := hidIt hz7b
      have HZ8 := hidIt hz8b
      have hsz21 : w.heap.size < w20.heap.size := Nat.lt_of_lt_of_le hsz5 (Below.size hE20)
      obtain ⟨r0, r1, r2⟩ := cell_of3 hz7
      obtain ⟨f0, f1, f2⟩ := cells_free hz7
      obtain ⟨s0, s1, s2⟩ := cell_of3 hz8
      obtain ⟨g0, g1, g2⟩ := cells_free hz8
      have hne' : ¬ nb8 = nb7 := fun e => hne e.symm
      have hne : ¬ nb7 = nb8 := hne
      clear hz7 hz8 hz7a hz8a hz7b hz8b hs7 hs8 hy hn' hAf h35 h41 hkk kp HST hE20 HGO HTL5 HTL1 HHY HHN HNA5 HA5 HB5 HK4 HK5 HK6
      go_wp2_with fail
      clear r0 r1 r2 f0 f1 f2 s0 s1 s2 g0 g1 g2 hne hne' hl7 hl8
      have hsz21' : w.heap.size < ((((((w20.setCell ⟨nb7, 0, none⟩ (.int .i64 T.op)).setCell ⟨nb7, 1, none⟩ (.string T.name)).setCell ⟨nb7, 2, none⟩ (.slice a7 T.args.length c7)).setCell ⟨nb8, 0, none⟩ (.int .i64 F.op)).setCell ⟨nb8, 1, none⟩ (.string F.name)).setCell ⟨nb8, 2, none⟩ (.slice a8 F.args.length c8)).heap.size := by simpa [World.setCell] using hsz21
      generalize ((((((w20.setCell ⟨nb7, 0, none⟩ (.int .i64 T.op)).setCell ⟨nb7, 1, none⟩ (.string T.name)).setCell ⟨nb7, 2, none⟩ (.slice a7 T.args.length c7)).setCell ⟨nb8, 0, none⟩ (.int .i64 F.op)).setCell ⟨nb8, 1, none⟩ (.string F.name)).setCell ⟨nb8, 2, none⟩ (.slice a8 F.args.length c8)) = w21 at *
      refine (qsameP_any T F _ _ _ HY21.out.free HN21.out.free).mono ?_
      rintro e w22 ⟨rfl, hb⟩
      rw [HINJ.out]
      have HB22 := hidIt (HB21.out.trans (Below.mono hb HB21.out.size))
      have HA22 := hidIt (blk_kept HA21.out hb)
      have HNO22 := hidIt (blk_kept HNO21.out hb)
      have HR22 := hidIt (blk_kept HR21.out hb)
      have HNF22 := hidIt (HNF21.out.go hb)
      have HY22 := hidIt (HY21.out.go hb)
      have HN22 := hidIt (HN21.out.go hb)
      have HY7 := hidIt (blk_kept HZ7.out hb)
      have HN8 := hidIt (blk_kept HZ8.out hb)
      have hsz22 : w.heap.size < w22.heap.size := Nat.lt_of_lt_of_le hsz21' hb.size
      have HSF : Hid (∀ i, w22.heap.size ≤ i → w.heap.size ≤ i ∧ i ≠ w.heap.size) := fun i hi => ⟨by omega, by omega⟩
      have HAF : Hid (FormIn w22 (fun i => w.heap.size ≤ i ∧ i ≠ w.heap.size) (.agg #[.int .i64 3, .string x, .slice none 0 0]) (.node 3 x [])) := FormIn.mk (FormsIn.nil none) rfl (i64_small (by omega) (by omega)) HXS.out (Nat.le_refl _) (Nat.zero_le _)
      clear hb HB21 HA21 HNO21 HR21 HNF21 HY21 HN21 HZ7 HZ8 hsz21 hsz21' hsz5 HINJ
      obtain ⟨y0, y1, y2⟩ := cell_of3 HY7.out
      obtain ⟨n0, n1, n2⟩ := cell_of3 HN8.out
      obtain ⟨a0, a1, a2⟩ := cell_of3 HA22.out
      obtain ⟨b0, b1, b2⟩ := cell_of3 HNO22.out
      have hly := lt_of_block HY7.out
      have hln := lt_of_block HN8.out
      have hla := lt_of_block HA22.out
      have hlb := lt_of_block HNO22.out
      obtain ⟨r0, r1, r2⟩ := cell_of3 HR22.out
      obtain ⟨f0, f1, f2⟩ := cells_free HR22.out
      have hrl := lt_of_block HR22.out
      by_cases heq : Y = N
      · have HE : Hid (thT (x :: rest) Z = T) := by show _ = _; rw [HTT.out, if_pos heq]
        rw [decide_eq_true heq]
        clear heq
        go_wp2_with fail
        refine bodyPost_ret (v := .agg #[.int .i64 T.op, .string T.name, .slice a7 T.args.length c7]) (by simp [results, Tryz.results85, go_sem, r0, r1, r2, hrl]) rfl ?_
        rw [HE.out]
        exact CPost.stored (Nat.le_refl _) HY22.out HB22.out
      have HC : Hid (thT (x :: rest) Z = choiceT x T F) := by show _ = _; rw [HTT.out, if_neg heq]
      rw [decide_eq_false heq]
      clear heq HTT
      have hcs : (T.op = 1 ∧ F.op = 2) ∨ (T.op = 1 ∧ F.op ≠ 2) ∨ (T.op = 2 ∧ F.op = 1) ∨ (T.op = 2 ∧ F.op ≠ 1) ∨ ((T.op ≠ 1 ∧ T.op ≠ 2) ∧ F.op = 1) ∨ ((T.op ≠ 1 ∧ T.op ≠ 2) ∧ F.op = 2) ∨ ((T.op ≠ 1 ∧ T.op ≠ 2) ∧ F.op ≠ 1 ∧ F.op ≠ 2) := by omega
      rcases hcs with ⟨q1, q2⟩ | ⟨q1, q2⟩ | ⟨q1, q2⟩ | ⟨q1, q2⟩ | ⟨⟨q1, q3⟩, q2⟩ | ⟨⟨q1, q3⟩, q2⟩ | ⟨⟨q1, q3⟩, q2, q4⟩
      · have e0 : (T.op == 1) = true := by rw [q1]; rfl
        have e1 : (F.op == 2) = true := by rw [q2]; rfl
        have HE : Hid (thT (x :: rest) Z = (.node 3 x [])) := by
          show _ = _
          rw [HC.out]
          unfold choiceT
          simp [q1, q2]
        clear q1 q2 HC
        go_wp2_with fail
        refine bodyPost_ret (v := .agg #[.int .i64 3, .string x, .slice none 0 0]) (by simp [results, Tryz.results85, go_sem, r0, r1, r2, hrl]) rfl ?_
        rw [HE.out]
        exact CPost.stored (Nat.le_refl _) HAF.out HB22.out
      · have e0 : (T.op == 1) = true := by rw [q1]; rfl
        have e1 : (F.op == 2) = false := by rw [beq_eq_false_iff_ne]; omega
        have HE : Hid (thT (x :: rest) Z = Tree.node 6 ⟨#[]⟩ [(.node 3 x []), F]) := by
          show _ = _
          rw [HC.out]
          unfold choiceT
          simp [q1, q2]
        obtain ⟨P, hP⟩ : ∃ P, P = (Tree.node 6 ⟨#[]⟩ [(.node 3 x []), F]) := ⟨_, rfl⟩
        rw [← hP] at HE
        have HP := hidIt (r3pair_any (fun i => w.heap.size ≤ i ∧ i ≠ w.heap.size) 6 (i64_small (by omega) (by omega)) (.node 3 x []) F _ _ w22 HAF.out HN22.out HSF.out)
        rw [← hP] at HP
        clear q1 q2 HC hP
        go_wp2_with fail
        refine HP.out.mono ?_
        rintro e w23 ⟨u, rfl, hf, hb⟩
        obtain ⟨a9, c9, _, _, rfl, -⟩ := hf.form
        have HF23 := hidIt hf
        have HB23 := hidIt (HB22.out.trans (Below.mono hb HB22.out.size))
        have HR23 := hidIt (blk_kept HR22.out hb)
        clear hf hb r0 r1 r2 f0 f1 f2 hrl y0 y1 y2 n0 n1 n2 a0 a1 a2 b0 b1 b2
        obtain ⟨r0, r1, r2⟩ := cell_of3 HR23.out
        obtain ⟨f0, f1, f2⟩ := cells_free HR23.out
        have hrl := lt_of_block HR23.out
        go_wp2_with fail
        refine bodyPost_ret (v := .agg #[.int .i64 P.op, .string P.name, .slice a9 P.args.length c9]) (by simp [results, Tryz.results85, go_sem, r0, r1, r2, hrl]) rfl ?_
        rw [HE.out]
        exact CPost.stored (Nat.le_refl _) HF23.out HB23.out
      · have e0 : (T.op == 1) = false := by rw [beq_eq_false_iff_ne]; omega
        have e1 : (T.op == 2) = true := by rw [q1]; rfl
        have e2 : (F.op == 1) = true := by rw [q2]; rfl
        have HE : Hid (thT (x :: rest) Z = (.node 4 ⟨#[]⟩ [.node 3 x []])) := by
          show _ = _
          rw [HC.out]
          unfold choiceT
          simp [q1, q2]
        clear q1 q2 HC
        go_wp2_with fail
        refine bodyPost_ret (v := .agg #[.int .i64 4, .string ⟨#[]⟩, .slice (some ⟨p5 + 1, 0, none⟩) 1 1]) (by simp [results, Tryz.results85, go_sem, r0, r1, r2, hrl]) rfl ?_
        rw [HE.out]
        exact CPost.stored (Nat.le_refl _) HNF22.out HB22.out
      · have e0 : (T.op == 1) = false := by rw [beq_eq_false_iff_ne]; omega
        have e1 : (T.op == 2) = true := by rw [q1]; rfl
        have e2 : (F.op == 1) = false := by rw [beq_eq_false_iff_ne]; omega
        have HE : Hid (thT (x :: rest) Z = Tree.node 5 ⟨#[]⟩ [(.node 4 ⟨#[]⟩ [.node 3 x []]), F]) := by
          show _ = _
          rw [HC.out]
          unfold choiceT
          simp [q1, q2]
        obtain ⟨P, hP⟩ : ∃ P, P = (Tree.node 5 ⟨#[]⟩ [(.node 4 ⟨#[]⟩ [.node 3 x []]), F]) := ⟨_, rfl⟩
        rw [← hP] at HE
        have HP := hidIt (r3pair_any (fun i => w.heap.size ≤ i ∧ i ≠ w.heap.size) 5 (i64_small (by omega) (by omega)) (.node 4 ⟨#[]⟩ [.node 3 x []]) F _ _ w22 HNF22.out HN22.out HSF.out)
        rw [← hP] at HP
        clear q1 q2 HC hP
        go_wp2_with fail
        refine HP.out.mono ?_
        rintro e w23 ⟨u, rfl, hf, hb⟩
        obtain ⟨a9, c9, _, _, rfl, -⟩ := hf.form
        have HF23 := hidIt hf
        have HB23 := hidIt (HB22.out.trans (Below.mono hb HB22.out.size))
        have HR23 := hidIt (blk_kept HR22.out hb)
        clear hf hb r0 r1 r2 f0 f1 f2 hrl y0 y1 y2 n0 n1 n2 a0 a1 a2 b0 b1 b2
        obtain ⟨r0, r1, r2⟩ := cell_of3 HR23.out
        obtain ⟨f0, f1, f2⟩ := cells_free HR23.out
        have hrl := lt_of_block HR23.out
        go_wp2_with fail
        refine bodyPost_ret (v := .agg #[.int .i64 P.op, .string P.name, .slice a9 P.args.length c9]) (by simp [results, Tryz.results85, go_sem, r0, r1, r2, hrl]) rfl ?_
        rw [HE.out]
        exact CPost.stored (Nat.le_refl _) HF23.out HB23.out
      · have e0 : (T.op == 1) = false := by rw [beq_eq_false_iff_ne]; omega
        have e1 : (T.op == 2) = false := by rw [beq_eq_false_iff_ne]; omega
        have e2 : (F.op == 1) = true := by rw [q2]; rfl
        have HE : Hid (thT (x :: rest) Z = Tree.node 6 ⟨#[]⟩ [(.node 4 ⟨#[]⟩ [.node 3 x []]), T]) := by
          show _ = _
          rw [HC.out]
          unfold choiceT
          simp [q1, q2, q3]
        obtain ⟨P, hP⟩ : ∃ P, P = (Tree.node 6 ⟨#[]⟩ [(.node 4 ⟨#[]⟩ [.node 3 x []]), T]) := ⟨_, rfl⟩
        rw [← hP] at HE
        have HP := hidIt (r3pair_any (fun i => w.heap.size ≤ i ∧ i ≠ w.heap.size) 6 (i64_small (by omega) (by omega)) (.node 4 ⟨#[]⟩ [.node 3 x []]) T _ _ w22 HNF22.out HY22.out HSF.out)
        rw [← hP] at HP
        clear q1 q2 q3 HC hP
        go_wp2_with fail
        refine HP.out.mono ?_
        rintro e w23 ⟨u, rfl, hf, hb⟩
        obtain ⟨a9, c9, _, _, rfl, -⟩ := hf.form
        have HF23 := hidIt hf
        have HB23 := hidIt (HB22.out.trans (Below.mono hb HB22.out.size))
        have HR23 := hidIt (blk_kept HR22.out hb)
        clear hf hb r0 r1 r2 f0 f1 f2 hrl y0 y1 y2 n0 n1 n2 a0 a1 a2 b0 b1 b2
        obtain ⟨r0, r1, r2⟩ := cell_of3 HR23.out
        obtain ⟨f0, f1, f2⟩ := cells_free HR23.out
        have hrl := lt_of_block HR23.out
        go_wp2_with fail
        refine bodyPost_ret (v := .agg #[.int .i64 P.op, .string P.name, .slice a9 P.args.length c9]) (by simp [results, Tryz.results85, go_sem, r0, r1, r2, hrl]) rfl ?_
        rw [HE.out]
        exact CPost.stored (Nat.le_refl _) HF23.out HB23.out
      · have e0 : (T.op == 1) = false := by rw [beq_eq_false_iff_ne]; omega
        have e1 : (T.op == 2) = false := by rw [beq_eq_false_iff_ne]; omega
        have e2 : (F.op == 1) = false := by rw [beq_eq_false_iff_ne]; omega
        have e3 : (F.op == 2) = true := by rw [q2]; rfl
        have HE : Hid (thT (x :: rest) Z = Tree.node 5 ⟨#[]⟩ [(.node 3 x []), T]) := by
          show _ = _
          rw [HC.out]
          unfold choiceT
          simp [q1, q2, q3]
        obtain ⟨P, hP⟩ : ∃ P, P = (Tree.node 5 ⟨#[]⟩ [(.node 3 x []), T]) := ⟨_, rfl⟩
        rw [← hP] at HE
        have HP := hidIt (r3pair_any (fun i => w.heap.size ≤ i ∧ i ≠ w.heap.size) 5 (i64_small (by omega) (by omega)) (.node 3 x []) T _ _ w22 HAF.out HY22.out HSF.out)
        rw [← hP] at HP
        clear q1 q2 q3 HC hP
        go_wp2_with fail
        refine HP.out.mono ?_
        rintro e w23 ⟨u, rfl, hf, hb⟩
        obtain ⟨a9, c9, _, _, rfl, -⟩ := hf.form
        have HF23 := hidIt hf
        have HB23 := hidIt (HB22.out.trans (Below.mono hb HB22.out.size))
        have HR23 := hidIt (blk_kept HR22.out hb)
        clear hf hb r0 r1 r2 f0 f1 f2 hrl y0 y1 y2 n0 n1 n2 a0 a1 a2 b0 b1 b2
        obtain ⟨r0, r1, r2⟩ := cell_of3 HR23.out
        obtain ⟨f0, f1, f2⟩ := cells_free HR23.out
        have hrl := lt_of_block HR23.out
        go_wp2_with fail
        refine bodyPost_ret (v := .agg #[.int .i64 P.op, .string P.name, .slice a9 P.args.length c9]) (by simp [results, Tryz.results85, go_sem, r0, r1, r2, hrl]) rfl ?_
        rw [HE.out]
        exact CPost.stored (Nat.le_refl _) HF23.out HB23.out
      · have e0 : (T.op == 1) = false := by rw [beq_eq_false_iff_ne]; omega
        have e1 : (T.op == 2) = false := by rw [beq_eq_false_iff_ne]; omega
        have e2 : (F.op == 1) = false := by rw [beq_eq_false_iff_ne]; omega
        have e3 : (F.op == 2) = false := by rw [beq_eq_false_iff_ne]; omega
        have HE : Hid (thT (x :: rest) Z = (Tree.node 6 ⟨#[]⟩ [(Tree.node 5 ⟨#[]⟩ [(.node 3 x []), T]), (Tree.node 5 ⟨#[]⟩ [(.node 4 ⟨#[]⟩ [.node 3 x []]), F])])) := by
          show _ = _
          rw [HC.out]
          unfold choiceT
          simp [q1, q2, q3, q4]
        clear q1 q2 q3 q4 HC
        obtain ⟨P, hP⟩ : ∃ P, P = (Tree.node 5 ⟨#[]⟩ [(.node 3 x []), T]) := ⟨_, rfl⟩
        obtain ⟨Q, hQ⟩ : ∃ Q, Q = (Tree.node 5 ⟨#[]⟩ [(.node 4 ⟨#[]⟩ [.node 3 x []]), F]) := ⟨_, rfl⟩
        obtain ⟨R, hR⟩ : ∃ R, R = (Tree.node 6 ⟨#[]⟩ [P, Q]) := ⟨_, rfl⟩
        have HP : Hid (∀ wx, Ext w22 wx → Calls Tryz.prog 107 #[.int .i64 5, .agg #[.int .i64 3, .string x, .slice none 0 0], .agg #[.int .i64 T.op, .string T.name, .slice a7 T.args.length c7]] wx fun e w'' => ∃ u, e = .returned u ∧ Ext w22 w'' ∧ Grows wx w'' ∧ Own.relR (Own.rA (isForm (fun i => w.heap.size ≤ i ∧ i ≠ w.heap.size) P)) wx u w'') := fun wx hC => by rw [hP]; exact rel_pair hC (i64_small (by omega) (by omega)) (hC.form HAF.out) (hC.form HY22.out) HSF.out
        have HQ : Hid (∀ wx, Ext w22 wx → Calls Tryz.prog 107 #[.int .i64 5, .agg #[.int .i64 4, .string ⟨#[]⟩, .slice (some ⟨p5 + 1, 0, none⟩) 1 1], .agg #[.int .i64 F.op, .string F.name, .slice a8 F.args.length c8]] wx fun e w'' => ∃ u, e = .returned u ∧ Ext w22 w'' ∧ Grows wx w'' ∧ Own.relR (Own.rA (isForm (fun i => w.heap.size ≤ i ∧ i ≠ w.heap.size) Q)) wx u w'') := fun wx hC => by rw [hQ]; exact rel_pair hC (i64_small (by omega) (by omega)) (hC.form HNF22.out) (hC.form HN22.out) HSF.out
        have HRR : Hid (∀ vp vq wx, Ext w22 wx → FormIn wx (fun i => w.heap.size ≤ i ∧ i ≠ w.heap.size) vp P → FormIn wx (fun i => w.heap.size ≤ i ∧ i ≠ w.heap.size) vq Q → Calls Tryz.prog 107 #[.int .i64 6, vp, vq] wx fun e w'' => ∃ u, e = .returned u ∧ Ext w22 w'' ∧ Grows wx w'' ∧ Own.relR (Own.rA (isForm (fun i => w.heap.size ≤ i ∧ i ≠ w.heap.size) R)) wx u w'') := fun vp vq wx hC h1 h2 => by rw [hR]; exact rel_pair hC (i64_small (by omega) (by omega)) h1 h2 HSF.out
        rw [← hP, ← hQ, ← hR] at HE
        clear hP hQ hR
        go_wp2_with fail
        have Ky0 := ext_cell y0
        have Ky1 := ext_cell y1
        have Ky2 := ext_cell y2
        have Kn0 := ext_cell n0
        have Kn1 := ext_cell n1
        have Kn2 := ext_cell n2
        have Ka0 := ext_cell a0
        have Ka1 := ext_cell a1
        have Ka2 := ext_cell a2
        have Kb0 := ext_cell b0
        have Kb1 := ext_cell b1
        have Kb2 := ext_cell b2
        clear r0 r1 r2 f0 f1 f2 hrl y0 y1 y2 n0 n1 n2 a0 a1 a2 b0 b1 b2
        haveI := Ext.nonempty w22
        refine Own.wp_region_tail 7 (Ext w22) Grows (Own.relTab [(97, Own.rA (isForm (fun i => w.heap.size ≤ i ∧ i ≠ w.heap.size) P)), (100, Own.rA (isForm (fun i => w.heap.size ≤ i ∧ i ≠ w.heap.size) Q)), (101, Own.rA (isForm (fun i => w.heap.size ≤ i ∧ i ≠ w.heap.size) R))]) (by kernel_rfl) (by kernel_rfl) (by kernel_rfl) (by kernel_rfl) (by kernel_rfl) (by kernel_rfl) (Own.stableO_cons (isForm_up _ _) (Own.stableO_cons (isForm_up _ _) (Own.stableO_cons (isForm_up _ _) (Own.stableO_nil _)))) (Ext.start w22) ?_
        simp only [Own.idleTail]
        repeat (
          refine' Own.walkR_plain (by kernel_rfl) rfl rfl (fun wx hC hL => ?_) ?_
          rotate_left
          · (go_simp; exact ⟨rfl, rfl⟩)
          simp only [Act.put, List.setIfInBounds_toArray, List.set_cons_zero, List.set_cons_succ])
        refine Own.walkR_rel (by kernel_rfl) rfl rfl (of_decide_eq_true (by kernel_rfl)) (fun wx hC hL => ?_) (fun v hv => ?_)
        · go_simp
          exact HP.out wx hC
        obtain ⟨_, _, hv⟩ := hv
        obtain ⟨_, _, _, _, rfl, -⟩ := FormIn.form hv
        clear hv
        simp only [Act.put, List.setIfInBounds_toArray, List.set_cons_zero, List.set_cons_succ]
        repeat (
          refine' Own.walkR_plain (by kernel_rfl) rfl rfl (fun wx hC hL => ?_) ?_
          rotate_left
          · (go_simp; exact ⟨rfl, rfl⟩)
          simp only [Act.put, List.setIfInBounds_toArray, List.set_cons_zero, List.set_cons_succ])
        refine Own.walkR_rel (by kernel_rfl) rfl rfl (of_decide_eq_true (by kernel_rfl)) (fun wx hC hL => ?_) (fun v hv => ?_)
        · go_simp
          exact HQ.out wx hC
        obtain ⟨_, _, hv⟩ := hv
        obtain ⟨_, _, _, _, rfl, -⟩ := FormIn.form hv
        clear hv
        simp only [Act.put, List.setIfInBounds_toArray, List.set_cons_zero, List.set_cons_succ]
        refine Own.walkR_rel (by kernel_rfl) rfl rfl (of_decide_eq_true (by kernel_rfl)) (fun wx hC hL => ?_) (fun v hv => ?_)
        · go_simp
          exact HRR.out _ _ wx hC (hL.get 97 (by simp [Own.more]) (by kernel_rfl) rfl rfl) (hL.get 100 (by simp [Own.more]) (by kernel_rfl) rfl rfl)
        obtain ⟨_, _, hv⟩ := hv
        obtain ⟨a9, c9, _, _, rfl, -⟩ := FormIn.form hv
        clear hv
        simp only [Act.put, List.setIfInBounds_toArray, List.set_cons_zero, List.set_cons_succ]
        refine Own.walkR_idle rfl (fun wx _ => Below.refl _ _) ?_
        refine fun w23 hb hK => ?_
        have hf : FormIn w23 (fun i => w.heap.size ≤ i ∧ i ≠ w.heap.size) (.agg #[.int .i64 R.op, .string R.name, .slice a9 R.args.length c9]) R := hK.get 101 (by simp [Own.more]) rfl rfl
        have HF23 := hidIt hf
        have HB23 := hidIt (HB22.out.trans (Below.mono hb HB22.out.size))
        have HR23 := hidIt (blk_kept HR22.out hb)
        clear hf hb hK
        obtain ⟨r0, r1, r2⟩ := cell_of3 HR23.out
        obtain ⟨f0, f1, f2⟩ := cells_free HR23.out
        have hrl := lt_of_block HR23.out
        simp only [List.drop_succ_cons, List.drop_zero]
        go_wp2_with fail
        refine bodyPost_ret (v := .agg #[.int .i64 R.op, .string R.name, .slice a9 R.args.length c9]) (by simp [results, Tryz.results85, go_sem, r0, r1, r2, hrl]) rfl ?_
        rw [HE.out]
        exact CPost.stored (Nat.le_refl _) HF23.out HB23.out
    case inr =>
      have hc1 : ¬ c = 1 := hc1
      have hlc' : (n : Int) + 1 ≤ (c : Int) := by omega
      refine Own.wp_region_tail 14 (Ext W5) Grows (Own.relTab [(34, Own.rA (Own.isVal (bv Y))), (35, Own.rA (isForm (fun i => w.heap.size ≤ i ∧ i ≠ w.heap.size) T)), (40, Own.rA (Own.isVal (bv N))), (41, Own.rA (isForm (fun i => w.heap.size ≤ i ∧ i ≠ w.heap.size) F)), (7, Own.rO (Own.isBox W5.heap.size)), (8, Own.rO (Own.isBox W5.heap.size))]) (by kernel_rfl) (by kernel_rfl) (by kernel_rfl) (by kernel_rfl) (by kernel_rfl) (by kernel_rfl) (Own.stableO_cons (Own.isVal_up _) (Own.stableO_cons (isForm_up _ _) (Own.stableO_cons (Own.isVal_up _) (Own.stableO_cons (isForm_up _ _) (Own.stableO_cons (Own.isBox_up _) (Own.stableO_cons (Own.isBox_up _) (Own.stableO_nil _))))))) (Ext.start W5) ?_
      simp only [Own.idleTail]
      repeat (
        refine' Own.walkR_plain (by kernel_rfl) rfl rfl (fun wx hC hL => ?_) ?_
        rotate_left
        · (go_simp; exact ⟨rfl, rfl⟩)
        simp only [Act.put, List.setIfInBounds_toArray, List.set_cons_zero, List.set_cons_succ])
      refine Own.walkR_rel (by kernel_rfl) rfl rfl (of_decide_eq_true (by kernel_rfl)) (fun wx hC hL => ?_) (fun v hv => ?_)
      · go_simp
        exact Own.callV hC (HHY.out wx)
      obtain ⟨_, _, rfl⟩ := hv
      simp only [Act.put, List.setIfInBounds_toArray, List.set_cons_zero, List.set_cons_succ]
      refine Own.walkR_rel (by kernel_rfl) rfl rfl (of_decide_eq_true (by kernel_rfl)) (fun wx hC hL => ?_) (fun v hv => ?_)
      · go_simp
        exact (HGO.out _ _ HTL5.out hc2 (by unfold maxLen; omega) wx hC).1
      obtain ⟨_, _, hv⟩ := hv
      obtain ⟨a7, c7, _, _, rfl, -⟩ := FormIn.form hv
      clear hv
      simp only [Act.put, List.setIfInBounds_toArray, List.set_cons_zero, List.set_cons_succ]
      repeat (
        refine' Own.walkR_plain (by kernel_rfl) rfl rfl (fun wx hC hL => ?_) ?_
        rotate_left
        · (go_simp; exact ⟨rfl, rfl⟩)
        simp only [Act.put, List.setIfInBounds_toArray, List.set_cons_zero, List.set_cons_succ])
      refine Own.walkR_rel (by kernel_rfl) rfl rfl (of_decide_eq_true (by kernel_rfl)) (fun wx hC hL => ?_) (fun v hv => ?_)
      · go_simp
        exact Own.callV hC (HHN.out wx)
      obtain ⟨_, _, rfl⟩ := hv
      simp only [Act.put, List.setIfInBounds_toArray, List.set_cons_zero, List.set_cons_succ]
      refine Own.walkR_rel (by kernel_rfl) rfl rfl (of_decide_eq_true (by kernel_rfl)) (fun wx hC hL => ?_) (fun v hv => ?_)
      · go_simp
        exact (HGO.out _ _ HTL5.out hc2 (by unfold maxLen; omega) wx hC).2
      obtain ⟨_, _, hv⟩ := hv
      obtain ⟨a8, c8, _, _, rfl, -⟩ := FormIn.form hv
      clear hv
      simp only [Act.put, List.setIfInBounds_toArray, List.set_cons_zero, List.set_cons_succ]
      refine Own.walkR_rel (by kernel_rfl) rfl rfl (of_decide_eq_true (by kernel_rfl)) (fun wx hC hL => ?_) (fun v hv => ?_)
      · go_simp
        exact Own.boxO hC (Nat.le_refl _)
      obtain ⟨_, _, nb7, rfl, hnb7, -⟩ := hv
      simp only [Act.put, List.setIfInBounds_toArray, List.set_cons_zero, List.set_cons_succ]
      refine Own.walkR_rel (by kernel_rfl) rfl rfl (of_decide_eq_true (by kernel_rfl)) (fun wx hC hL => ?_) (fun v hv => ?_)
      · go_simp
        exact Own.boxO hC (Nat.le_refl _)
      obtain ⟨_, _, nb8, rfl, hnb8, -⟩ := hv
      simp only [Act.put, List.setIfInBounds_toArray, List.set_cons_zero, List.set_cons_succ]
      refine Own.walkR_idle rfl (fun wx _ => Below.refl _ _) ?_
      refine Own.walkR_idle rfl (fun wx _ => Below.refl _ _) ?_
      refine fun w20 hE20 hK => ?_
      have h35 : isForm (fun i => w.heap.size ≤ i ∧ i ≠ w.heap.size) T (.agg #[.int .i64 T.op, .string T.name, .slice a7 T.args.length c7]) w20 := hK.get 35 (by simp [Own.more]) rfl rfl
      have h41 : isForm (fun i => w.heap.size ≤ i ∧ i ≠ w.heap.size) F (.agg #[.int .i64 F.op, .string F.name, .slice a8 F.args.length c8]) w20 := hK.get 41 (by simp [Own.more]) rfl rfl
      obtain ⟨_, e7, -, hz7⟩ : Own.isBox W5.heap.size (.pointer (some ⟨nb7, 0, none⟩)) w20 := hK.get 7 (by simp [Own.more]) rfl rfl
      injection e7 with e7
      injection e7 with e7
      injection e7 with e7
      subst e7
      obtain ⟨_, e8, -, hz8⟩ : Own.isBox W5.heap.size (.pointer (some ⟨nb8, 0, none⟩)) w20 := hK.get 8 (by simp [Own.more]) rfl rfl
      injection e8 with e8
      injection e8 with e8
      injection e8 with e8
      subst e8
      have hne : nb7 ≠ nb8 := Own.apart_ptr (hK.ne 7 8 (by simp [Own.more]) (by simp [Own.more]) (by decide) rfl rfl rfl rfl rfl rfl)
      clear hK
      simp only [List.drop_succ_cons, List.drop_zero]
      have hy : FormIn w20 (fun i => (w.heap.size ≤ i ∧ i ≠ w.heap.size) ∧ i ≠ nb7 ∧ i ≠ nb8) (.agg #[.int .i64 T.op, .string T.name, .slice a7 T.args.length c7]) T := (FormIn.unbox hz8 (by intro _ _ e; cases e) (FormIn.unbox hz7 (by intro _ _ e; cases e) h35 HKY.out) HKY.out).mono fun i _ h => ⟨h.1.1, h.1.2, h.2⟩
      have hn' : FormIn w20 (fun i => (w.heap.size ≤ i ∧ i ≠ w.heap.size) ∧ i ≠ nb7 ∧ i ≠ nb8) (.agg #[.int .i64 F.op, .string F.name, .slice a8 F.args.length c8]) F := (FormIn.unbox hz8 (by intro _ _ e; cases e) (FormIn.unbox hz7 (by intro _ _ e; cases e) h41 HKN.out) HKN.out).mono fun i _ h => ⟨h.1.1, h.1.2, h.2⟩
      have hs7 := set_three w20 nb7 (.int .i64 T.op) (.string T.name) (.slice a7 T.args.length c7)
      have hz7a := Own.set_blk3 (x' := .int .i64 T.op) (y' := .string T.name) (z' := .slice a7 T.args.length c7) hz7
      have hl7 := lt_of_block hz7
      have hl8 := lt_of_block hz8
      have hz8a := hz8
      rw [← hs7.block nb8 hl8 (fun e => hne (by injection e with e; exact e.symm))] at hz8a
      have hs8 := set_three (((w20.setCell ⟨nb7, 0, none⟩ (.int .i64 T.op)).setCell ⟨nb7, 1, none⟩ (.string T.name)).setCell ⟨nb7, 2, none⟩ (.slice a7 T.args.length c7)) nb8 (.int .i64 F.op) (.string F.name) (.slice a8 F.args.length c8)
      have hz8b := Own.set_blk3 (x' := .int .i64 F.op) (y' := .string F.name) (z' := .slice a8 F.args.length c8) hz8a
      have hz7b := hz7a
      rw [← hs8.block nb7 (lt_of_block hz7a) (fun e => hne (by injection e))] at hz7b
      have HB21 := hidIt (below_of_only (b := nb7) (only_new (only_new (only_of_below (HB5.out.trans (Below.mono hE20 HB5.out.size)) (some nb7)) hs7 (by omega)) hs8 (by omega)) (by omega))
      have HST := hidIt (fun (i : Nat) (h7 : i ≠ nb7) (h8 : i ≠ nb8) (hl : i < w20.heap.size) => (hs8.block i (Nat.lt_of_lt_of_le hl hs7.size) (fun e => h8 (by injection e))).trans (hs7.block i hl (fun e => h7 (by injection e))))
      have hkk : ∀ (q : Nat) (o : Obj), W5.heap[q]? = some o → q ≠ nb7 ∧ q ≠ nb8 := fun q o h => by have := lt_of_block h; exact ⟨by omega, by omega⟩
      have kp := fun (q : Nat) (o : Obj) (h : W5.heap[q]? = some o) => (HST.out q (hkk q o h).1 (hkk q o h).2 (lt_of_block (blk_kept h hE20))).trans (blk_kept h hE20)
      have HA21 := hidIt (kp _ _ HK5.out)
      have HNO21 := hidIt (kp _ _ HK6.out)
      have HR21 := hidIt (kp _ _ HK4.out)
      have hAf : FormIn w20 (fun i => (w.heap.size ≤ i ∧ i ≠ w.heap.size) ∧ i ≠ nb7 ∧ i ≠ nb8) _ _ := (HNA5.out.mono (S' := fun i => (w.heap.size ≤ i ∧ i ≠ w.heap.size) ∧ i ≠ nb7 ∧ i ≠ nb8) fun i hi h => ⟨h, by omega, by omega⟩).go hE20
      have HNF21 := hidIt ((hAf.kept fun i hi hl => HST.out i hi.2.1 hi.2.2 hl).mono (S' := (fun i => w.heap.size ≤ i ∧ i ≠ w.heap.size)) fun i _ hi => hi.1)
      have HY21 := hidIt ((hy.kept fun i hi hl => HST.out i hi.2.1 hi.2.2 hl).mono (S' := (fun i => w.heap.size ≤ i ∧ i ≠ w.heap.size)) fun i _ hi => hi.1)
      have HN21 := hidIt ((hn'.kept fun i hi hl => HST.out i hi.2.1 hi.2.2 hl).mono (S' := (fun i => w.heap.size ≤ i ∧ i ≠ w.heap.size)) fun i _ hi => hi.1)
      have HZ7 := hidIt hz7b
      have HZ8 := hidIt hz8b
      have hsz21 : w.heap.size < w20.heap.size := Nat.lt_of_lt_of_le hsz5 (Below.size hE20)
      obtain ⟨r0, r1, r2⟩ := cell_of3 hz7
      obtain ⟨f0, f1, f2⟩ := cells_free hz7
      obtain ⟨s0, s1, s2⟩ := cell_of3 hz8
      obtain ⟨g0, g1, g2⟩ := cells_free hz8
      have hne' : ¬ nb8 = nb7 := fun e => hne e.symm
      have hne : ¬ nb7 = nb8 := hne
      clear hz7 hz8 hz7a hz8a hz7b hz8b hs7 hs8 hy hn' hAf h35 h41 hkk kp HST hE20 HGO HTL5 HTL1 HHY HHN HNA5 HA5 HB5 HK4 HK5 HK6
      go_wp2_with fail
      clear r0 r1 r2 f0 f1 f2 s0 s1 s2 g0 g1 g2 hne hne' hl7 hl8
      have hsz21' : w.heap.size < ((((((w20.setCell ⟨nb7, 0, none⟩ (.int .i64 T.op)).setCell ⟨nb7, 1, none⟩ (.string T.name)).setCell ⟨nb7, 2, none⟩ (.slice a7 T.args.length c7)).setCell ⟨nb8, 0, none⟩ (.int .i64 F.op)).setCell ⟨nb8, 1, none⟩ (.string F.name)).setCell ⟨nb8, 2, none⟩ (.slice a8 F.args.length c8)).heap.size := by simpa [World.setCell] using hsz21
      generalize ((((((w20.setCell ⟨nb7, 0, none⟩ (.int .i64 T.op)).setCell ⟨nb7, 1, none⟩ (.string T.name)).setCell ⟨nb7, 2, none⟩ (.slice a7 T.args.length c7)).setCell ⟨nb8, 0, none⟩ (.int .i64 F.op)).setCell ⟨nb8, 1, none⟩ (.string F.name)).setCell ⟨nb8, 2, none⟩ (.slice a8 F.args.length c8)) = w21 at *
      refine (qsameP_any T F _ _ _ HY21.out.free HN21.out.free).mono ?_
      rintro e w22 ⟨rfl, hb⟩
      rw [HINJ.out]
      have HB22 := hidIt (HB21.out.trans (Below.mono hb HB21.out.size))
      have HA22 := hidIt (blk_kept HA21.out hb)
      have HNO22 := hidIt (blk_kept HNO21.out hb)
      have HR22 := hidIt (blk_kept HR21.out hb)
      have HNF22 := hidIt (HNF21.out.go hb)
      have HY22 := hidIt (HY21.out.go hb)
      have HN22 := hidIt (HN21.out.go hb)
      have HY7 := hidIt (blk_kept HZ7.out hb)
      have HN8 := hidIt (blk_kept HZ8.out hb)
      have hsz22 : w.heap.size < w22.heap.size := Nat.lt_of_lt_of_le hsz21' hb.size
      have HSF : Hid (∀ i, w22.heap.size ≤ i → w.heap.size ≤ i ∧ i ≠ w.heap.size) := fun i hi => ⟨by omega, by omega⟩
      have HAF : Hid (FormIn w22 (fun i => w.heap.size ≤ i ∧ i ≠ w.heap.size) (.agg #[.int .i64 3, .string x, .slice none 0 0]) (.node 3 x [])) := FormIn.mk (FormsIn.nil none) rfl (i64_small (by omega) (by omega)) HXS.out (Nat.le_refl _) (Nat.zero_le _)
      clear hb HB21 HA21 HNO21 HR21 HNF21 HY21 HN21 HZ7 HZ8 hsz21 hsz21' hsz5 HINJ
      obtain ⟨y0, y1, y2⟩ := cell_of3 HY7.out
      obtain ⟨n0, n1, n2⟩ := cell_of3 HN8.out
      obtain ⟨a0, a1, a2⟩ := cell_of3 HA22.out
      obtain ⟨b0, b1, b2⟩ := cell_of3 HNO22.out
      have hly := lt_of_block HY7.out
      have hln := lt_of_block HN8.out
      have hla := lt_of_block HA22.out
      have hlb := lt_of_block HNO22.out
      obtain ⟨r0, r1, r2⟩ := cell_of3 HR22.out
      obtain ⟨f0, f1, f2⟩ := cells_free HR22.out
      have hrl := lt_of_block HR22.out
      by_cases heq : Y = N
      · have HE : Hid (thT (x :: rest) Z = T) := by show _ = _; rw [HTT.out, if_pos heq]
        rw [decide_eq_true heq]
        clear heq
        go_wp2_with fail
        refine bodyPost_ret (v := .agg #[.int .i64 T.op, .string T.name, .slice a7 T.args.length c7]) (by simp [results, Tryz.results85, go_sem, r0, r1, r2, hrl]) rfl ?_
        rw [HE.out]
        exact CPost.stored (Nat.le_refl _) HY22.out HB22.out
      have HC : Hid (thT (x :: rest) Z = choiceT x T F) := by show _ = _; rw [HTT.out, if_neg heq]
      rw [decide_eq_false heq]
      clear heq HTT
      have hcs : (T.op = 1 ∧ F.op = 2) ∨ (T.op = 1 ∧ F.op ≠ 2) ∨ (T.op = 2 ∧ F.op = 1) ∨ (T.op = 2 ∧ F.op ≠ 1) ∨ ((T.op ≠ 1 ∧ T.op ≠ 2) ∧ F.op = 1) ∨ ((T.op ≠ 1 ∧ T.op ≠ 2) ∧ F.op = 2) ∨ ((T.op ≠ 1 ∧ T.op ≠ 2) ∧ F.op ≠ 1 ∧ F.op ≠ 2) := by omega
      rcases hcs with ⟨q1, q2⟩ | ⟨q1, q2⟩ | ⟨q1, q2⟩ | ⟨q1, q2⟩ | ⟨⟨q1, q3⟩, q2⟩ | ⟨⟨q1, q3⟩, q2⟩ | ⟨⟨q1, q3⟩, q2, q4⟩
      · have e0 : (T.op == 1) = true := by rw [q1]; rfl
        have e1 : (F.op == 2) = true := by rw [q2]; rfl
        have HE : Hid (thT (x :: rest) Z = (.node 3 x [])) := by
          show _ = _
          rw [HC.out]
          unfold choiceT
          simp [q1, q2]
        clear q1 q2 HC
        go_wp2_with fail
        refine bodyPost_ret (v := .agg #[.int .i64 3, .string x, .slice none 0 0]) (by simp [results, Tryz.results85, go_sem, r0, r1, r2, hrl]) rfl ?_
        rw [HE.out]
        exact CPost.stored (Nat.le_refl _) HAF.out HB22.out
      · have e0 : (T.op == 1) = true := by rw [q1]; rfl
        have e1 : (F.op == 2) = false := by rw [beq_eq_false_iff_ne]; omega
        have HE : Hid (thT (x :: rest) Z = Tree.node 6 ⟨#[]⟩ [(.node 3 x []), F]) := by
          show _ = _
          rw [HC.out]
          unfold choiceT
          simp [q1, q2]
        obtain ⟨P, hP⟩ : ∃ P, P = (Tree.node 6 ⟨#[]⟩ [(.node 3 x []), F]) := ⟨_, rfl⟩
        rw [← hP] at HE
        have HP := hidIt (r3pair_any (fun i => w.heap.size ≤ i ∧ i ≠ w.heap.size) 6 (i64_small (by omega) (by omega)) (.node 3 x []) F _ _ w22 HAF.out HN22.out HSF.out)
        rw [← hP] at HP
        clear q1 q2 HC hP
        go_wp2_with fail
        refine HP.out.mono ?_
        rintro e w23 ⟨u, rfl, hf, hb⟩
        obtain ⟨a9, c9, _, _, rfl, -⟩ := hf.form
        have HF23 := hidIt hf
        have HB23 := hidIt (HB22.out.trans (Below.mono hb HB22.out.size))
        have HR23 := hidIt (blk_kept HR22.out hb)
        clear hf hb r0 r1 r2 f0 f1 f2 hrl y0 y1 y2 n0 n1 n2 a0 a1 a2 b0 b1 b2
        obtain ⟨r0, r1, r2⟩ := cell_of3 HR23.out
        obtain ⟨f0, f1, f2⟩ := cells_free HR23.out
        have hrl := lt_of_block HR23.out
        go_wp2_with fail
        refine bodyPost_ret (v := .agg #[.int .i64 P.op, .string P.name, .slice a9 P.args.length c9]) (by simp [results, Tryz.results85, go_sem, r0, r1, r2, hrl]) rfl ?_
        rw [HE.out]
        exact CPost.stored (Nat.le_refl _) HF23.out HB23.out
      · have e0 : (T.op == 1) = false := by rw [beq_eq_false_iff_ne]; omega
        have e1 : (T.op == 2) = true := by rw [q1]; rfl
        have e2 : (F.op == 1) = true := by rw [q2]; rfl
        have HE : Hid (thT (x :: rest) Z = (.node 4 ⟨#[]⟩ [.node 3 x []])) := by
          show _ = _
          rw [HC.out]
          unfold choiceT
          simp [q1, q2]
        clear q1 q2 HC
        go_wp2_with fail
        refine bodyPost_ret (v := .agg #[.int .i64 4, .string ⟨#[]⟩, .slice (some ⟨p5 + 1, 0, none⟩) 1 1]) (by simp [results, Tryz.results85, go_sem, r0, r1, r2, hrl]) rfl ?_
        rw [HE.out]
        exact CPost.stored (Nat.le_refl _) HNF22.out HB22.out
      · have e0 : (T.op == 1) = false := by rw [beq_eq_false_iff_ne]; omega
        have e1 : (T.op == 2) = true := by rw [q1]; rfl
        have e2 : (F.op == 1) = false := by rw [beq_eq_false_iff_ne]; omega
        have HE : Hid (thT (x :: rest) Z = Tree.node 5 ⟨#[]⟩ [(.node 4 ⟨#[]⟩ [.node 3 x []]), F]) := by
          show _ = _
          rw [HC.out]
          unfold choiceT
          simp [q1, q2]
        obtain ⟨P, hP⟩ : ∃ P, P = (Tree.node 5 ⟨#[]⟩ [(.node 4 ⟨#[]⟩ [.node 3 x []]), F]) := ⟨_, rfl⟩
        rw [← hP] at HE
        have HP := hidIt (r3pair_any (fun i => w.heap.size ≤ i ∧ i ≠ w.heap.size) 5 (i64_small (by omega) (by omega)) (.node 4 ⟨#[]⟩ [.node 3 x []]) F _ _ w22 HNF22.out HN22.out HSF.out)
        rw [← hP] at HP
        clear q1 q2 HC hP
        go_wp2_with fail
        refine HP.out.mono ?_
        rintro e w23 ⟨u, rfl, hf, hb⟩
        obtain ⟨a9, c9, _, _, rfl, -⟩ := hf.form
        have HF23 := hidIt hf
        have HB23 := hidIt (HB22.out.trans (Below.mono hb HB22.out.size))
        have HR23 := hidIt (blk_kept HR22.out hb)
        clear hf hb r0 r1 r2 f0 f1 f2 hrl y0 y1 y2 n0 n1 n2 a0 a1 a2 b0 b1 b2
        obtain ⟨r0, r1, r2⟩ := cell_of3 HR23.out
        obtain ⟨f0, f1, f2⟩ := cells_free HR23.out
        have hrl := lt_of_block HR23.out
        go_wp2_with fail
        refine bodyPost_ret (v := .agg #[.int .i64 P.op, .string P.name, .slice a9 P.args.length c9]) (by simp [results, Tryz.results85, go_sem, r0, r1, r2, hrl]) rfl ?_
        rw [HE.out]
        exact CPost.stored (Nat.le_refl _) HF23.out HB23.out
      · have e0 : (T.op == 1) = false := by rw [beq_eq_false_iff_ne]; omega
        have e1 : (T.op == 2) = false := by rw [beq_eq_false_iff_ne]; omega
        have e2 : (F.op == 1) = true := by rw [q2]; rfl
        have HE : Hid (thT (x :: rest) Z = Tree.node 6 ⟨#[]⟩ [(.node 4 ⟨#[]⟩ [.node 3 x []]), T]) := by
          show _ = _
          rw [HC.out]
          unfold choiceT
          simp [q1, q2, q3]
        obtain ⟨P, hP⟩ : ∃ P, P = (Tree.node 6 ⟨#[]⟩ [(.node 4 ⟨#[]⟩ [.node 3 x []]), T]) := ⟨_, rfl⟩
        rw [← hP] at HE
        have HP := hidIt (r3pair_any (fun i => w.heap.size ≤ i ∧ i ≠ w.heap.size) 6 (i64_small (by omega) (by omega)) (.node 4 ⟨#[]⟩ [.node 3 x []]) T _ _ w22 HNF22.out HY22.out HSF.out)
        rw [← hP] at HP
        clear q1 q2 q3 HC hP
        go_wp2_with fail
        refine HP.out.mono ?_
        rintro e w23 ⟨u, rfl, hf, hb⟩
        obtain ⟨a9, c9, _, _, rfl, -⟩ := hf.form
        have HF23 := hidIt hf
        have HB23 := hidIt (HB22.out.trans (Below.mono hb HB22.out.size))
        have HR23 := hidIt (blk_kept HR22.out hb)
        clear hf hb r0 r1 r2 f0 f1 f2 hrl y0 y1 y2 n0 n1 n2 a0 a1 a2 b0 b1 b2
        obtain ⟨r0, r1, r2⟩ := cell_of3 HR23.out
        obtain ⟨f0, f1, f2⟩ := cells_free HR23.out
        have hrl := lt_of_block HR23.out
        go_wp2_with fail
        refine bodyPost_ret (v := .agg #[.int .i64 P.op, .string P.name, .slice a9 P.args.length c9]) (by simp [results, Tryz.results85, go_sem, r0, r1, r2, hrl]) rfl ?_
        rw [HE.out]
        exact CPost.stored (Nat.le_refl _) HF23.out HB23.out
      · have e0 : (T.op == 1) = false := by rw [beq_eq_false_iff_ne]; omega
        have e1 : (T.op == 2) = false := by rw [beq_eq_false_iff_ne]; omega
        have e2 : (F.op == 1) = false := by rw [beq_eq_false_iff_ne]; omega
        have e3 : (F.op == 2) = true := by rw [q2]; rfl
        have HE : Hid (thT (x :: rest) Z = Tree.node 5 ⟨#[]⟩ [(.node 3 x []), T]) := by
          show _ = _
          rw [HC.out]
          unfold choiceT
          simp [q1, q2, q3]
        obtain ⟨P, hP⟩ : ∃ P, P = (Tree.node 5 ⟨#[]⟩ [(.node 3 x []), T]) := ⟨_, rfl⟩
        rw [← hP] at HE
        have HP := hidIt (r3pair_any (fun i => w.heap.size ≤ i ∧ i ≠ w.heap.size) 5 (i64_small (by omega) (by omega)) (.node 3 x []) T _ _ w22 HAF.out HY22.out HSF.out)
        rw [← hP] at HP
        clear q1 q2 q3 HC hP
        go_wp2_with fail
        refine HP.out.mono ?_
        rintro e w23 ⟨u, rfl, hf, hb⟩
        obtain ⟨a9, c9, _, _, rfl, -⟩ := hf.form
        have HF23 := hidIt hf
        have HB23 := hidIt (HB22.out.trans (Below.mono hb HB22.out.size))
        have HR23 := hidIt (blk_kept HR22.out hb)
        clear hf hb r0 r1 r2 f0 f1 f2 hrl y0 y1 y2 n0 n1 n2 a0 a1 a2 b0 b1 b2
        obtain ⟨r0, r1, r2⟩ := cell_of3 HR23.out
        obtain ⟨f0, f1, f2⟩ := cells_free HR23.out
        have hrl := lt_of_block HR23.out
        go_wp2_with fail
        refine bodyPost_ret (v := .agg #[.int .i64 P.op, .string P.name, .slice a9 P.args.length c9]) (by simp [results, Tryz.results85, go_sem, r0, r1, r2, hrl]) rfl ?_
        rw [HE.out]
        exact CPost.stored (Nat.le_refl _) HF23.out HB23.out
      · have e0 : (T.op == 1) = false := by rw [beq_eq_false_iff_ne]; omega
        have e1 : (T.op == 2) = false := by rw [beq_eq_false_iff_ne]; omega
        have e2 : (F.op == 1) = false := by rw [beq_eq_false_iff_ne]; omega
        have e3 : (F.op == 2) = false := by rw [beq_eq_false_iff_ne]; omega
        have HE : Hid (thT (x :: rest) Z = (Tree.node 6 ⟨#[]⟩ [(Tree.node 5 ⟨#[]⟩ [(.node 3 x []), T]), (Tree.node 5 ⟨#[]⟩ [(.node 4 ⟨#[]⟩ [.node 3 x []]), F])])) := by
          show _ = _
          rw [HC.out]
          unfold choiceT
          simp [q1, q2, q3, q4]
        clear q1 q2 q3 q4 HC
        obtain ⟨P, hP⟩ : ∃ P, P = (Tree.node 5 ⟨#[]⟩ [(.node 3 x []), T]) := ⟨_, rfl⟩
        obtain ⟨Q, hQ⟩ : ∃ Q, Q = (Tree.node 5 ⟨#[]⟩ [(.node 4 ⟨#[]⟩ [.node 3 x []]), F]) := ⟨_, rfl⟩
        obtain ⟨R, hR⟩ : ∃ R, R = (Tree.node 6 ⟨#[]⟩ [P, Q]) := ⟨_, rfl⟩
        have HP : Hid (∀ wx, Ext w22 wx → Calls Tryz.prog 107 #[.int .i64 5, .agg #[.int .i64 3, .string x, .slice none 0 0], .agg #[.int .i64 T.op, .string T.name, .slice a7 T.args.length c7]] wx fun e w'' => ∃ u, e = .returned u ∧ Ext w22 w'' ∧ Grows wx w'' ∧ Own.relR (Own.rA (isForm (fun i => w.heap.size ≤ i ∧ i ≠ w.heap.size) P)) wx u w'') := fun wx hC => by rw [hP]; exact rel_pair hC (i64_small (by omega) (by omega)) (hC.form HAF.out) (hC.form HY22.out) HSF.out
        have HQ : Hid (∀ wx, Ext w22 wx → Calls Tryz.prog 107 #[.int .i64 5, .agg #[.int .i64 4, .string ⟨#[]⟩, .slice (some ⟨p5 + 1, 0, none⟩) 1 1], .agg #[.int .i64 F.op, .string F.name, .slice a8 F.args.length c8]] wx fun e w'' => ∃ u, e = .returned u ∧ Ext w22 w'' ∧ Grows wx w'' ∧ Own.relR (Own.rA (isForm (fun i => w.heap.size ≤ i ∧ i ≠ w.heap.size) Q)) wx u w'') := fun wx hC => by rw [hQ]; exact rel_pair hC (i64_small (by omega) (by omega)) (hC.form HNF22.out) (hC.form HN22.out) HSF.out
        have HRR : Hid (∀ vp vq wx, Ext w22 wx → FormIn wx (fun i => w.heap.size ≤ i ∧ i ≠ w.heap.size) vp P → FormIn wx (fun i => w.heap.size ≤ i ∧ i ≠ w.heap.size) vq Q → Calls Tryz.prog 107 #[.int .i64 6, vp, vq] wx fun e w'' => ∃ u, e = .returned u ∧ Ext w22 w'' ∧ Grows wx w'' ∧ Own.relR (Own.rA (isForm (fun i => w.heap.size ≤ i ∧ i ≠ w.heap.size) R)) wx u w'') := fun vp vq wx hC h1 h2 => by rw [hR]; exact rel_pair hC (i64_small (by omega) (by omega)) h1 h2 HSF.out
        rw [← hP, ← hQ, ← hR] at HE
        clear hP hQ hR
        go_wp2_with fail
        have Ky0 := ext_cell y0
        have Ky1 := ext_cell y1
        have Ky2 := ext_cell y2
        have Kn0 := ext_cell n0
        have Kn1 := ext_cell n1
        have Kn2 := ext_cell n2
        have Ka0 := ext_cell a0
        have Ka1 := ext_cell a1
        have Ka2 := ext_cell a2
        have Kb0 := ext_cell b0
        have Kb1 := ext_cell b1
        have Kb2 := ext_cell b2
        clear r0 r1 r2 f0 f1 f2 hrl y0 y1 y2 n0 n1 n2 a0 a1 a2 b0 b1 b2
        haveI := Ext.nonempty w22
        refine Own.wp_region_tail 7 (Ext w22) Grows (Own.relTab [(97, Own.rA (isForm (fun i => w.heap.size ≤ i ∧ i ≠ w.heap.size) P)), (100, Own.rA (isForm (fun i => w.heap.size ≤ i ∧ i ≠ w.heap.size) Q)), (101, Own.rA (isForm (fun i => w.heap.size ≤ i ∧ i ≠ w.heap.size) R))]) (by kernel_rfl) (by kernel_rfl) (by kernel_rfl) (by kernel_rfl) (by kernel_rfl) (by kernel_rfl) (Own.stableO_cons (isForm_up _ _) (Own.stableO_cons (isForm_up _ _) (Own.stableO_cons (isForm_up _ _) (Own.stableO_nil _)))) (Ext.start w22) ?_
        simp only [Own.idleTail]
        repeat (
          refine' Own.walkR_plain (by kernel_rfl) rfl rfl (fun wx hC hL => ?_) ?_
          rotate_left
          · (go_simp; exact ⟨rfl, rfl⟩)
          simp only [Act.put, List.setIfInBounds_toArray, List.set_cons_zero, List.set_cons_succ])
        refine Own.walkR_rel (by kernel_rfl) rfl rfl (of_decide_eq_true (by kernel_rfl)) (fun wx hC hL => ?_) (fun v hv => ?_)
        · go_simp
          exact HP.out wx hC
        obtain ⟨_, _, hv⟩ := hv
        obtain ⟨_, _, _, _, rfl, -⟩ := FormIn.form hv
        clear hv
        simp only [Act.put, List.setIfInBounds_toArray, List.set_cons_zero, List.set_cons_succ]
        repeat (
          refine' Own.walkR_plain (by kernel_rfl) rfl rfl (fun wx hC hL => ?_) ?_
          rotate_left
          · (go_simp; exact ⟨rfl, rfl⟩)
          simp only [Act.put, List.setIfInBounds_toArray, List.set_cons_zero, List.set_cons_succ])
        refine Own.walkR_rel (by kernel_rfl) rfl rfl (of_decide_eq_true (by kernel_rfl)) (fun wx hC hL => ?_) (fun v hv => ?_)
        · go_simp
          exact HQ.out wx hC
        obtain ⟨_, _, hv⟩ := hv
        obtain ⟨_, _, _, _, rfl, -⟩ := FormIn.form hv
        clear hv
        simp only [Act.put, List.setIfInBounds_toArray, List.set_cons_zero, List.set_cons_succ]
        refine Own.walkR_rel (by kernel_rfl) rfl rfl (of_decide_eq_true (by kernel_rfl)) (fun wx hC hL => ?_) (fun v hv => ?_)
        · go_simp
          exact HRR.out _ _ wx hC (hL.get 97 (by simp [Own.more]) (by kernel_rfl) rfl rfl) (hL.get 100 (by simp [Own.more]) (by kernel_rfl) rfl rfl)
        obtain ⟨_, _, hv⟩ := hv
        obtain ⟨a9, c9, _, _, rfl, -⟩ := FormIn.form hv
        clear hv
        simp only [Act.put, List.setIfInBounds_toArray, List.set_cons_zero, List.set_cons_succ]
        refine Own.walkR_idle rfl (fun wx _ => Below.refl _ _) ?_
        refine fun w23 hb hK => ?_
        have hf : FormIn w23 (fun i => w.heap.size ≤ i ∧ i ≠ w.heap.size) (.agg #[.int .i64 R.op, .string R.name, .slice a9 R.args.length c9]) R := hK.get 101 (by simp [Own.more]) rfl rfl
        have HF23 := hidIt hf
        have HB23 := hidIt (HB22.out.trans (Below.mono hb HB22.out.size))
        have HR23 := hidIt (blk_kept HR22.out hb)
        clear hf hb hK
        obtain ⟨r0, r1, r2⟩ := cell_of3 HR23.out
        obtain ⟨f0, f1, f2⟩ := cells_free HR23.out
        have hrl := lt_of_block HR23.out
        simp only [List.drop_succ_cons, List.drop_zero]
        go_wp2_with fail
        refine bodyPost_ret (v := .agg #[.int .i64 R.op, .string R.name, .slice a9 R.args.length c9]) (by simp [results, Tryz.results85, go_sem, r0, r1, r2, hrl]) rfl ?_
        rw [HE.out]
        exact CPost.stored (Nat.le_refl _) HF23.out HB23.out
end Go.Proofs.YtilkpjcbmllgmaaGreatDoor

namespace Go.Proofs.YtilkpjcbmllgmaaGreatDoor
set_option linter.unusedVariables false
set_option linter.unusedSimpArgs false
open Go Go.RowKit

set_option maxRecDepth 100000 in
set_option maxHeartbeats 1000000 in
theorem r3Theory_any (voc : List ByteArray) (S : BitVec 64) (a : Option Addr) (c : Nat) (hvn : voc.length ≤ 1000000) (hlc : voc.length ≤ c) (hcm : c ≤ maxLen) (w : World) (h : StrsIn w (fun _ => True) a voc) :
    Calls Tryz.prog 44 #[.slice a voc.length c, bv S] w (TPost (thR voc S) (thE voc) w) := by
  have HNEW := hidIt (heap_alloc_new w (.cells #[.int .i64 0, .string ⟨#[]⟩, .slice none 0 0] 24))
  have HB : Hid (Below w.heap.size w (w.alloc (.cells #[.int .i64 0, .string ⟨#[]⟩, .slice none 0 0] 24))) := Grows.alloc _ _
  have hR0 : w.heap.size < (w.alloc (.cells #[.int .i64 0, .string ⟨#[]⟩, .slice none 0 0] 24)).heap.size := by simp
  have HS := hidIt (h.go HB.out)
  have HCM := hidIt hcm
  have HLC := hidIt hlc
  have HV0 := hidIt (fun w (h : StrsIn w (fun _ => True) a voc) => r3valid_any voc a c hvn w h)
  clear h hcm
  by_cases hv : vocB voc = true
  · have HT : Hid (thR voc S = thT voc (S &&& allS voc.length)) := by show _ = _; rw [thR, if_pos hv]
    have HE : Hid (thE voc = 0) := by show _ = _; rw [thE, if_pos hv]
    have HTH := hidIt (r3theory_any voc hv S)
    rw [hv] at HV0
    clear hv
    go_enter Tryz.func44, Tryz.ntmps44
    go_wp2_with fail
    generalize (w.alloc (.cells #[.int .i64 0, .string ⟨#[]⟩, .slice none 0 0] 24)) = w0 at *
    refine (HV0.out _ HS.out).mono ?_
    rintro e w1 ⟨rfl, hb⟩
    have HB1 := hidIt (HB.out.trans (Below.mono hb HB.out.size))
    have HK1 := hidIt (blk_kept HNEW.out hb)
    have HS1 := hidIt (HS.out.go hb)
    have hsz1 : w.heap.size < w1.heap.size := Nat.lt_of_lt_of_le hR0 hb.size
    clear hb HS HB HNEW hR0
    go_wp2_with fail
    refine (HTH.out a c _ HS1.out HLC.out HCM.out).mono ?_
    rintro e w2 ⟨u, rfl, hf, hb⟩
    rw [← HT.out] at hf
    obtain ⟨a9, c9, _, _, rfl, -⟩ := hf.form
    have HF2 : Hid (FormIn w2 (fun i => w.heap.size ≤ i ∧ i ≠ w.heap.size) (.agg #[.int .i64 (thR voc S).op, .string (thR voc S).name, .slice a9 (thR voc S).args.length c9]) (thR voc S)) := hf.mono fun i _ hi => ⟨by omega, by omega⟩
    have HB2 := hidIt (HB1.out.trans (Below.mono hb HB1.out.size))
    have HK2 := hidIt (blk_kept HK1.out hb)
    clear hf hb
    generalize thR voc S = T at *
    obtain ⟨r0, r1, r2⟩ := cell_of3 HK2.out
    obtain ⟨f0, f1, f2⟩ := cells_free HK2.out
    have hrl := lt_of_block HK2.out
    go_wp2_with fail
    refine bodyPost_ret (v := .tuple #[.agg #[.int .i64 T.op, .string T.name, .slice a9 T.args.length c9], .int .i64 0]) (by simp [results, Tryz.results44, go_sem, r0, r1, r2, hrl]) rfl ?_
    rw [HE.out]
    obtain ⟨u', hu, hf', hb'⟩ := CPost.stored (Nat.le_refl _) HF2.out HB2.out
    injection hu with hu
    subst hu
    exact ⟨_, _, _, _, _, rfl, hf', hb'⟩
  · have hv' : vocB voc = false := by simpa using hv
    have HT : Hid (thR voc S = .node 0 ⟨#[]⟩ []) := by show _ = _; rw [thR, if_neg hv]
    have HE : Hid (thE voc = 1) := by show _ = _; rw [thE, if_neg hv]
    rw [hv'] at HV0
    clear hv hv'
    go_enter Tryz.func44, Tryz.ntmps44
    go_wp2_with fail
    refine (HV0.out _ HS.out).mono ?_
    rintro e w1 ⟨rfl, hb⟩
    have HB1 := hidIt (HB.out.trans (Below.mono hb HB.out.size))
    have HK1 := hidIt (blk_kept HNEW.out hb)
    clear hb
    obtain ⟨r0, r1, r2⟩ := cell_of3 HK1.out
    obtain ⟨f0, f1, f2⟩ := cells_free HK1.out
    have hrl := lt_of_block HK1.out
    go_wp2_with fail
    refine bodyPost_ret (v := .tuple #[.agg #[.int .i64 0, .string ⟨#[]⟩, .slice none 0 0], .int .i64 1]) (by simp [results, Tryz.results44, go_sem, r0, r1, r2, hrl]) rfl ?_
    rw [HT.out, HE.out]
    obtain ⟨u', hu, hf', hb'⟩ := CPost.stored (S := fun i => w.heap.size ≤ i) (Nat.le_refl _) (FormIn.mk (op := 0) (FormsIn.nil none) rfl (by unfold I64; omega) nil_le (Nat.le_refl _) (Nat.zero_le _)) HB1.out
    injection hu with hu
    subst hu
    exact ⟨_, _, _, _, _, rfl, hf', hb'⟩
end Go.Proofs.YtilkpjcbmllgmaaGreatDoor

namespace Go.Proofs.YtilkpjcbmllgmaaGreatDoor
set_option linter.unusedVariables false
set_option linter.unusedSimpArgs false
open Go Go.RowKit

def le60 (s : ByteArray) : Bool := decide (s.size ≤ 60)
/-- Are the names few and short? -/
def shortV (l : List ByteArray) : Bool := l.all le60 && decide (l.length ≤ 12)

set_option maxRecDepth 100000 in
set_option maxHeartbeats 1000000 in
theorem short3_any (l : List ByteArray) (a : Option Addr) (c : Nat) (hn : l.length ≤ maxLen) (w : World) {S : Nat → Prop} (h : StrsIn w S a l) :
    Calls Tryz.prog 22 #[.slice a l.length c] w fun e w' => e = .returned (.bool (shortV l)) ∧ w = w' := by
  have H := hidIt h
  unfold maxLen at hn
  clear h
  go_enter Tryz.func22, Tryz.ntmps22
  go_wp2_with fail
  go_loop [3, 6] (fun _ i => ∃ k : Nat, k ≤ l.length ∧ i = .int .i64 k ∧ Hid ((l.take k).all le60 = true)) (fun _ i => l.length - (intOf i).toNat)
  case atStart => exact ⟨0, Nat.zero_le _, rfl, by simp [Hid]⟩
  case round =>
    obtain ⟨k, hk, rfl, hok⟩ := hrel
    by_cases hlt : k < l.length
    · obtain ⟨b, off, rfl, c0, hsz⟩ := H.out.at k hlt
      have hlt' : (k : Int) < (l.length : Int) := by omega
      have hk0 : (0 : Int) ≤ (k : Int) := by omega
      have HST : Hid ((l.take (k + 1)).all le60 = le60 l[k]) := by
        show _ = _
        rw [take_snoc' l k hlt, List.all_append, hok.out, Bool.true_and]
        simp
      have HF : Hid (le60 l[k] = false → shortV l = false) := fun e => by
        unfold shortV
        have : l.all le60 = false := by
          cases h : l.all le60
          · rfl
          · rw [List.all_eq_true.1 h _ (List.getElem_mem hlt)] at e
            cases e
        rw [this, Bool.false_and]
      generalize l[k] = x at *
      by_cases h60 : 60 < x.size
      · have h60' : (60 : Int) < (x.size : Int) := by omega
        have HT : Hid (shortV l = false) := HF.out (by unfold le60; exact decide_eq_false (by omega))
        clear HF HST h60
        go_wp2_with fail
        go_ret
        exact ⟨ret_bool HT.out.symm, rfl⟩
      · have h60' : decide ((60 : Int) < (x.size : Int)) = false := by simp; omega
        have HT : Hid ((l.take (k + 1)).all le60 = true) := by show _ = _; rw [HST.out]; unfold le60; exact decide_eq_true (by omega)
        clear HF HST h60
        go_wp2_with fail
        go_round
        case rel => exact ⟨k + 1, by omega, by go_num, HT⟩
        case measure => simp [intOf]; omega
    · have HT : Hid (shortV l = decide ((l.length : Int) ≤ 12)) := by
        show _ = _
        have h1 := hok.out
        rw [List.take_of_length_le (by omega)] at h1
        unfold shortV
        rw [h1, Bool.true_and, decide_eq_decide]
        omega
      go_wp2_with fail
      go_ret
      exact ⟨ret_bool HT.out.symm, rfl⟩

set_option maxRecDepth 100000 in
set_option maxHeartbeats 2000000 in
theorem voc_own (n : Nat) (hn : n ≤ 26) (w : World) :
    Calls Tryz.prog 23 #[.int .i64 (n : Int)] w fun e w' => ∃ v : Value, e = .returned v ∧ OwnS w' w.heap.size v (vocL n) ∧ Below w.heap.size w w' := by
  go_enter Tryz.func23, Tryz.ntmps23
  go_wp2_with fail
  go_loopw [3, 4] (fun v i wr => ∃ k : Nat, i = .int .i64 k ∧ k ≤ n ∧ Hid (OwnS wr w.heap.size v (vocL k)) ∧ Hid (Below w.heap.size w wr)) (fun _ i _ => n - (intOf i).toNat)
  case atStart => exact ⟨0, rfl, by omega, OwnS.nil _ _, Below.refl _ _⟩
  case round =>
    obtain ⟨k, rfl, hk, hown, hbel⟩ := hrel
    by_cases hlt2 : k < n
    · have HV := hidIt (vocL_succ k)
      have hlk := vocL_len k
      have hcv := conv_letter k (by omega) wr (97 + (k : Int)) rfl
      have hbw : w.heap.size ≤ ((wr.alloc (.cells #[.int .u8 (97 + (k : Int))] 5)).alloc (.cells #[.string (letter k)] 9)).heap.size := by have := hbel.out.size; simp; omega
      have HNW := hidIt (heap_alloc_at (w := wr.alloc (.cells #[.int .u8 (97 + (k : Int))] 5)) (o := .cells #[.string (letter k)] 9) (n := wr.heap.size + 1) (by simp))
      have HO3 := hidIt ((hown.out.alloc (.cells #[.int .u8 (97 + (k : Int))] 5)).alloc (.cells #[.string (letter k)] 9))
      have HBW := hidIt hbw
      have HOB := hidIt hown.out.block
      have HLK : Hid ((vocL k).length ≤ 1000000) := by show _ ≤ _; omega
      clear hbw hlk
      go_wp2_with (at_builtin; refine wpList_append_str rfl _ _ rfl w.heap.size _ (vocL k) rfl HO3.out _ 1 rfl HNW.out (by rw [letter_size]; unfold maxLen; omega) HLK.out HBW.out ?_)
      intro v' w3 ho3 hg3
      have HO4 : Hid (OwnS w3 w.heap.size v' (vocL (k + 1))) := by show OwnS _ _ _ _; rw [HV.out]; exact ho3
      have HB3 : Hid (Below w.heap.size w w3) := below_over2 hbel.out ((Grows.alloc wr _).trans (Below.mono (Grows.alloc _ _) (by simp))) hg3 (fun g e => (HOB.out g e).1)
      clear ho3 hg3 hcv
      go_wp2_with fail
      go_roundw
      case rel => exact ⟨k + 1, by go_num, by omega, HO4, HB3⟩
      case measure => simp [intOf]; omega
    · obtain rfl : k = n := by omega
      obtain ⟨a, c, rfl, hlc, hcm, hs⟩ := hown.out.form
      rw [vocL_len] at hlc ⊢
      have HOW := hidIt hown.out
      rw [vocL_len] at HOW
      go_wp2_with fail
      go_ret
      exact ⟨.slice a k c, rfl, HOW.out, hbel.out⟩

/-- A number of 64 bits is a set. -/
theorem wrap_bv64 (z : Int) : ∃ S : BitVec 64, IntKind.u64.wrap z = (S.toNat : Int) := ⟨BitVec.ofInt 64 z, by
  rw [IntKind.wrap_u64, BitVec.toNat_ofInt]
  omega⟩
theorem and_bv64 (k : BinOp) (hk : k = .and ∨ k = .or ∨ k = .xor) (x y : Int) : ∃ S : BitVec 64, bits k .u64 x y = (S.toNat : Int) := by
  rcases hk with rfl | rfl | rfl
  · exact wrap_bv64 _
  · exact wrap_bv64 _
  · exact wrap_bv64 _

set_option maxRecDepth 100000 in
set_option maxHeartbeats 1000000 in
theorem sset_any (B b : Nat) (zs : List Int) (k : Nat) (w : World) (h : SrcAt w B b zs k) :
    Calls Tryz.prog 30 #[.pointer (some ⟨b, 0, none⟩)] w fun e w' => ∃ (S : BitVec 64) (q : Nat), e = .returned (bv S) ∧ SrcAt w' B b zs q ∧ w.grownBy w' (some b) := by
  have H := hidIt h
  clear h
  go_enter Tryz.func30, Tryz.ntmps30
  go_wp2_with fail
  refine (sn_nat 4 (by omega) (by omega) B b zs k _ H.out).mono ?_
  rintro e w1 ⟨z, k1, rfl, hz, hs1, hg1⟩
  have HS1 := hidIt hs1
  have HG1 := hidIt hg1
  clear hs1 hg1
  rcases (by omega : z = 0 ∨ z = 1 ∨ z = 2 ∨ z = 3) with rfl | rfl | rfl | rfl
  · go_wp2_with fail
    refine (raw_any B b zs k1 _ HS1.out).mono ?_
    rintro e w2 ⟨x, k2, rfl, hx, hs2, hg2⟩
    have HS2 := hidIt hs2
    have HG2 := hidIt (only_trans HG1.out hg2)
    clear hs2 hg2
    obtain ⟨T, hT⟩ := wrap_bv64 x
    have HT := hidIt hT
    clear hT
    go_wp2_with fail
    go_ret
    exact ⟨T, k2, ret_u64 HT.out, HS2.out, HG2.out⟩
  · go_wp2_with fail
    refine (raw_any B b zs k1 _ HS1.out).mono ?_
    rintro e w2 ⟨x, k2, rfl, hx, hs2, hg2⟩
    have HS2 := hidIt hs2
    have HG2 := hidIt (only_trans HG1.out hg2)
    clear hs2 hg2
    go_wp2_with fail
    refine (raw_any B b zs k2 _ HS2.out).mono ?_
    rintro e w3 ⟨y, k3, rfl, hy, hs3, hg3⟩
    have HS3 := hidIt hs3
    have HG3 := hidIt (only_trans HG2.out hg3)
    clear hs3 hg3
    go_wp2_with fail
    go_ret
    obtain ⟨T, hT⟩ := and_bv64 .and (.inl rfl) (IntKind.u64.wrap x) (IntKind.u64.wrap y)
    exact ⟨T, k3, ret_u64 hT, HS3.out, HG3.out⟩
  · go_wp2_with fail
    refine (sn_nat 64 (by omega) (by omega) B b zs k1 _ HS1.out).mono ?_
    rintro e w2 ⟨x, k2, rfl, hx, hs2, hg2⟩
    have HS2 := hidIt hs2
    have HG2 := hidIt (only_trans HG1.out hg2)
    clear hs2 hg2
    have hwx : IntKind.u64.wrap (x : Int) = (x : Int) := by rw [IntKind.wrap_u64]; omega
    go_wp2_with fail
    refine (sn_nat 64 (by omega) (by omega) B b zs k2 _ HS2.out).mono ?_
    rintro e w3 ⟨y, k3, rfl, hy, hs3, hg3⟩
    have HS3 := hidIt hs3
    have HG3 := hidIt (only_trans HG2.out hg3)
    clear hs3 hg3
    have hwy : IntKind.u64.wrap (y : Int) = (y : Int) := by rw [IntKind.wrap_u64]; omega
    go_wp2_with fail
    go_ret
    obtain ⟨T, hT⟩ := and_bv64 .or (.inr (.inl rfl)) (IntKind.u64.wrap (2 ^ x)) (IntKind.u64.wrap (2 ^ y))
    exact ⟨T, k3, ret_u64 hT, HS3.out, HG3.out⟩
  · go_wp2_with fail
    refine (raw_any B b zs k1 _ HS1.out).mono ?_
    rintro e w2 ⟨x, k2, rfl, hx, hs2, hg2⟩
    have HS2 := hidIt hs2
    have HG2 := hidIt (only_trans HG1.out hg2)
    clear hs2 hg2
    go_wp2_with fail
    refine (raw_any B b zs k2 _ HS2.out).mono ?_
    rintro e w3 ⟨y, k3, rfl, hy, hs3, hg3⟩
    have HS3 := hidIt hs3
    have HG3 := hidIt (only_trans HG2.out hg3)
    clear hs3 hg3
    go_wp2_with fail
    go_ret
    obtain ⟨T, hT⟩ := and_bv64 .xor (.inr (.inr rfl)) (IntKind.u64.wrap (IntKind.u64.wrap x * 11400714819323198485)) (IntKind.u64.wrap y)
    exact ⟨T, k3, ret_u64 hT, HS3.out, HG3.out⟩

/-- The names that odd chooses from. -/
def oddV : List ByteArray := [⟨#[97]⟩, ⟨#[]⟩, ⟨#[65]⟩, ⟨#[122, 122]⟩, ⟨#[98]⟩]
theorem oddV_size : ∀ s ∈ oddV, s.size ≤ 200 := by decide

/-- A row of strings that the call owns, one of them written anew. -/
theorem OwnS.write {w : World} {B : Nat} {g n c : Nat} {l : List ByteArray} (h : OwnS w B (.slice (some ⟨g, 0, none⟩) n c) l) (k : Nat) (hk : k < l.length) (x : ByteArray) (hx : x.size ≤ maxLen) :
    w.frozen? ⟨g, k, none⟩ = false ∧ (∃ s, w.cell? ⟨g, k, none⟩ = some (.string s)) ∧ StrsIn (w.setCell ⟨g, k, none⟩ (.string x)) (fun i => i = g) (some ⟨g, 0, none⟩) (l.set k x) := by
  have hcells := fun i u hi => World.ownsRow.cells h.1 (g := g) rfl i u hi
  have hadd : ∀ i, (⟨g, 0, none⟩ : Addr).add i = ⟨g, 0 + i, none⟩ := fun i => by unfold Addr.add; split <;> simp_all
  have hc : ∀ i (hi : i < l.length), w.cell? ⟨g, i, none⟩ = some (.string l[i]) := fun i hi => by
    have := hcells i (.string l[i]) (by simp [List.getElem?_eq_getElem hi])
    rw [hadd, Nat.zero_add] at this
    exact this
  rcases h.1.2 with ⟨e, -⟩ | ⟨g', cap, cur, e, hB, hg, -⟩
  · cases e
  · injection e with e
    injection e with e
    injection e with e
    subst e
    refine ⟨free_any hg k, ⟨_, hc k hk⟩, g, 0, fun _ => ⟨rfl, rfl⟩, fun i hi => ?_⟩
    simp only [List.length_set] at hi
    rw [Nat.zero_add]
    have hk2 := setCell_heap_self (k := k) hg (.string x)
    have hcur : ∀ i (hi : i < l.length), cur[i]? = some (.string l[i]) := fun i hi => by
      have := hc i hi
      simpa [World.cell?, hg] using this
    by_cases e : k = i
    · subst e
      have hsz : k < cur.size := by
        have := hcur k hk
        rw [Array.getElem?_eq_some_iff] at this
        exact this.1
      refine ⟨?_, by simpa using hx⟩
      simp [World.cell?, hk2, hsz]
    · refine ⟨?_, by simp only [List.getElem_set_ne e]; exact h.2 _ (List.getElem_mem hi)⟩
      simp only [List.getElem_set_ne e]
      simp [World.cell?, hk2, Array.getElem?_setIfInBounds, e, hcur i hi]

set_option maxRecDepth 100000 in
set_option maxHeartbeats 1000000 in
theorem odd3_any (B b : Nat) (zs : List Int) (k : Nat) (w : World) (h : SrcAt w B b zs k) :
    Calls Tryz.prog 25 #[.pointer (some ⟨b, 0, none⟩)] w fun e w' => ∃ (l : List ByteArray) (a : Option Addr) (c q : Nat), e = .returned (.slice a l.length c) ∧ l.length ≤ 8 ∧ l.length ≤ c ∧ c ≤ maxLen ∧ StrsIn w' (fun i => i ≠ b) a l ∧ SrcAt w' B b zs q ∧ w.grownBy w' (some b) := by
  have H := hidIt h
  clear h
  go_enter Tryz.func25, Tryz.ntmps25
  go_wp2_with fail
  refine (sn_nat 9 (by omega) (by omega) B b zs k _ H.out).mono ?_
  rintro e w1 ⟨z, k1, rfl, hz, hs1, hg1⟩
  have HS1 := hidIt hs1
  have HG1 := hidIt hg1
  clear hs1 hg1
  go_wp2_with fail
  refine (voc_own z (by omega) _).mono ?_
  rintro e w2 ⟨v, rfl, hown, hb⟩
  have HS2 := hidIt (HS1.out.grow (only_of_below hb none))
  have HG2 := hidIt (only_trans HG1.out (only_of_below hb _))
  have HO2 := hidIt hown
  have hlen : (vocL z).length = z := vocL_len z
  have hbl1 := HS1.out.lt
  have hwg : w.heap.size ≤ w1.heap.size := HG1.out.size
  clear hb HS1 HG1
  obtain ⟨a, c, rfl, hlc, hcm, hs⟩ := hown.form
  have HSI := hidIt (StrsIn.mono (S' := fun i => i ≠ b) hs fun i _ hi => by omega)
  rw [hlen] at hlc HO2 ⊢
  unfold maxLen at hcm
  by_cases hz0 : z = 0
  · subst hz0
    go_wp2_with fail
    go_ret
    exact ⟨vocL 0, a, c, k1, by rw [hlen]; rfl, by rw [hlen]; omega, by rw [hlen]; exact hlc, hcm, HSI.out, HS2.out, HG2.out⟩
  · have hz0' : (0 : Int) < (z : Int) := by omega
    obtain ⟨g, rfl⟩ : ∃ g, a = some ⟨g, 0, none⟩ := by
      rcases HO2.out.1.2 with ⟨e, h0⟩ | ⟨g, cap, cur, e, -⟩
      · omega
      · injection e with e
        exact ⟨g, e⟩
    have hgb := (HO2.out.block g rfl).1
    clear hown hs
    go_wp2_with fail
    refine (sn_nat (z : Int) (by omega) (by omega) B b zs k1 _ HS2.out).mono ?_
    rintro e w3 ⟨m, k3, rfl, hm, hs3, hg3⟩
    have hm' : m < z := by omega
    have HS3 := hidIt hs3
    have HG3 := hidIt (only_trans HG2.out hg3)
    have hkept : OwnS w3 w1.heap.size (.slice (some ⟨g, 0, none⟩) z c) (vocL z) := HO2.out.kept hg3 (fun g' e => by injection e with e; omega)
    have HO3 := hidIt hkept
    clear hs3 hg3 hkept
    go_wp2_with fail
    refine (stext_any w3.heap.size oddV (by decide) (by decide) B b zs k3 _ (HS3.out.alloc _) (heap_alloc_new w3 _) (by have := HS3.out.lt; omega)).mono ?_
    rintro e w4 ⟨s, k4, rfl, hmem, hs4, hg4⟩
    have hss := oddV_size s hmem
    have HO4 : Hid (OwnS w4 w1.heap.size (.slice (some ⟨g, 0, none⟩) z c) (vocL z)) := (HO3.out.alloc _).kept hg4 (fun g' e => by injection e with e; omega)
    have HS4 := hidIt hs4
    have HG4 := hidIt (only_trans (only_trans HG3.out (only_alloc (only_refl w3 _) _)) hg4)
    have hgl := (HO4.out.block g rfl).2
    obtain ⟨hfr, ⟨s0, hcl⟩, hst⟩ := HO4.out.write m (by rw [hlen]; exact hm') s (by unfold maxLen; omega)
    have HST := hidIt (hst.mono (S' := fun i => i ≠ b) fun i _ hi => by omega)
    have hm0 : (0 : Int) ≤ (m : Int) := by omega
    have hg0 := HS4.out.base
    clear hs4 hg4 hst hmem
    go_wp2_with fail
    go_ret
    refine ⟨(vocL z).set m s, some ⟨g, 0, none⟩, c, k4, by rw [List.length_set, hlen]; rfl, by rw [List.length_set, hlen]; omega, by rw [List.length_set, hlen]; exact hlc, hcm, HST.out, ?_, ?_⟩
    · exact HS4.out.setCell _ _ (by show B ≤ g; omega) (by show g ≠ b; omega)
    · exact only_setCell HG4.out (.inr (by show w.heap.size ≤ g; omega)) _
end Go.Proofs.YtilkpjcbmllgmaaGreatDoor

namespace Go.Proofs.YtilkpjcbmllgmaaGreatDoor
set_option linter.unusedVariables false
set_option linter.unusedSimpArgs false
open Go.RowKit

theorem ext_cell3 {W : World} {b o : Nat} {v : Value} (h : W.cell? ⟨b, o, none⟩ = some v) : ∀ w, Ext W w → w.cell? ⟨b, o, none⟩ = some v := fun w hw => Ext.cell h ⟨w, hw⟩

theorem set_row3 (w : World) (b k : Nat) (x y z : Value) : w.grownBy (((w.setCell ⟨b, k, none⟩ x).setCell ⟨b, k + 1, none⟩ y).setCell ⟨b, k + 2, none⟩ z) (some b) :=
  only_setCell (p := ⟨b, k + 2, none⟩) (only_setCell (p := ⟨b, k + 1, none⟩) (only_setCell (p := ⟨b, k, none⟩) (only_refl w (some b)) (.inl rfl) x) (.inl rfl) y) (.inl rfl) z

theorem OwnG.form {w : World} {B : Nat} {S : Nat → Prop} {v : Value} {ts : List Tree} (h : OwnG w B S v ts) : ∃ (a : Option Addr) (c : Nat), v = .slice a ts.length c ∧ ts.length ≤ c ∧ c ≤ maxLen ∧ FormsIn w (fun k => S k ∨ B ≤ k) a ts := by
  obtain ⟨hs, h1, ho, hf⟩ := h
  rcases ho.2 with ⟨rfl, h0⟩ | ⟨g, cap, cur, rfl, hB, hg, hnc, hcm, hcs, htake⟩
  · have : ts = [] := List.eq_nil_of_length_eq_zero h0
    subst this
    exact ⟨none, 0, rfl, Nat.le_refl _, Nat.zero_le _, FormsIn.nil none⟩
  · refine ⟨_, cap, rfl, hnc, hcm, FormsIn.of_cells hs ts h1 (.inr hB) (fun j u hj => ?_) (fun i hi hi' => (hf i hi hi').mono fun k _ hk => .inl hk)⟩
    have := World.ownsRow.cells ho (g := g) rfl j u hj
    have e : (⟨g, 0, none⟩ : Addr).add j = ⟨g, 0 + j, none⟩ := by unfold Addr.add; split <;> simp_all
    rwa [e] at this
theorem OwnG.block {w : World} {B : Nat} {S : Nat → Prop} {v : Value} {ts : List Tree} (h : OwnG w B S v ts) : ∀ g, v.ownBlock = some g → B ≤ g ∧ g < w.heap.size := by
  obtain ⟨hs, -, ho, -⟩ := h
  exact World.ownsRow.lt ho
theorem OwnG.kept {w w' : World} {B : Nat} {S : Nat → Prop} {v : Value} {ts : List Tree} {row : Option Nat} (h : OwnG w B S v ts) (hg : w.grownBy w' row) (hr : ∀ g, row = some g → v.ownBlock ≠ some g ∧ ¬ S g) : OwnG w' B S v ts := by
  obtain ⟨hs, h1, ho, hf⟩ := h
  refine ⟨hs, h1, World.ownsRow.kept ho hg ?_, fun i hi hi' => (hf i hi hi').kept fun k hk hl => hg.block k hl (fun e => (hr k e.symm).2 hk)⟩
  cases hv : v.ownBlock with
  | none => exact .inl rfl
  | some g => exact .inr (fun e => (hr g e.symm).1 hv)

/-- The list as a row: its own block, and the formulas'. -/
theorem OwnG.row {w : World} {B : Nat} {S : Nat → Prop} {v : Value} {ts : List Tree} (h : OwnG w B S v ts) : ∃ (a : Option Addr) (c : Nat), v = .slice a ts.length c ∧ ts.length ≤ c ∧ c ≤ maxLen ∧ FormsIn w (fun k => S k ∨ v.ownBlock = some k) a ts ∧ (0 < ts.length → ∃ g, a = some ⟨g, 0, none⟩ ∧ v.ownBlock = some g) := by
  obtain ⟨hs, h1, ho, hf⟩ := h
  rcases ho.2 with ⟨rfl, h0⟩ | ⟨g, cap, cur, rfl, hB, hg, hnc, hcm, hcs, htake⟩
  · have : ts = [] := List.eq_nil_of_length_eq_zero h0
    subst this
    exact ⟨none, 0, rfl, Nat.le_refl _, Nat.zero_le _, FormsIn.nil none, fun h => by simp at h⟩
  · refine ⟨_, cap, rfl, hnc, hcm, FormsIn.of_cells hs ts h1 (.inr rfl) (fun j u hj => ?_) (fun i hi hi' => (hf i hi hi').mono fun k _ hk => .inl hk), fun _ => ⟨g, rfl, rfl⟩⟩
    have := World.ownsRow.cells ho (g := g) rfl j u hj
    have e : (⟨g, 0, none⟩ : Addr).add j = ⟨g, 0 + j, none⟩ := by unfold Addr.add; split <;> simp_all
    rwa [e] at this
theorem OwnG.at {w : World} {B : Nat} {S : Nat → Prop} {v : Value} {ts : List Tree} (h : OwnG w B S v ts) (i : Nat) (hi : i < ts.length) : ∃ (g : Nat) (cur : Array Value) (ai : Option Addr) (c ci : Nat), v = .slice (some ⟨g, 0, none⟩) ts.length c ∧ B ≤ g ∧ g < w.heap.size ∧ w.heap[g]? = some (.cells cur 24 (0, 0)) ∧
    w.cell? ⟨g, i * 3, none⟩ = some (.int .i64 ts[i].op) ∧ w.cell? ⟨g, i * 3 + 1, none⟩ = some (.string ts[i].name) ∧ w.cell? ⟨g, i * 3 + 2, none⟩ = some (.slice ai ts[i].args.length ci) ∧
    (∀ k, w.frozen? ⟨g, k, none⟩ = false) ∧ FormIn w S (.agg #[.int .i64 ts[i].op, .string ts[i].name, .slice ai ts[i].args.length ci]) ts[i] := by
  obtain ⟨hs, h1, ho, hf⟩ := h
  rcases ho.2 with ⟨rfl, h0⟩ | ⟨g, cap, cur, rfl, hB, hg, hnc, hcm, hcs, htake⟩
  · omega
  · have hi' : i < hs.length := by omega
    have hz : i < (hds ts hs).length := by unfold hds; rw [List.length_zipWith]; omega
    have gg : ∀ j, j < 3 → (flatF (hds ts hs))[i * 3 + j]? = (ts[i].hd hs[i].1 hs[i].2).cells[j]? := fun j hj => by
      rw [flatF_get _ i j hz hj]
      simp [hds]
    have cc : ∀ j u, (flatF (hds ts hs))[j]? = some u → w.cell? ⟨g, j, none⟩ = some u := fun j u hj => by
      have := World.ownsRow.cells ho (g := g) rfl j u hj
      have e : (⟨g, 0, none⟩ : Addr).add j = ⟨g, j, none⟩ := by unfold Addr.add; split <;> simp_all
      rwa [e] at this
    exact ⟨g, cur, hs[i].1, cap, hs[i].2, rfl, hB, (World.ownsRow.lt ho g rfl).2, hg, cc _ _ (gg 0 (by omega)), cc _ _ (gg 1 (by omega)), cc _ _ (gg 2 (by omega)), fun k => free_any hg k, hf i hi hi'⟩
theorem cur_at {w : World} {g k : Nat} {cur : Array Value} {ty : TypeId} {x : Value} (hg : w.heap[g]? = some (.cells cur ty (0, 0))) (h : w.cell? ⟨g, k, none⟩ = some x) : cur[k]? = some x ∧ k < cur.size := by
  have h1 : cur[k]? = some x := by simpa [World.cell?, hg] using h
  exact ⟨h1, (Array.getElem?_eq_some_iff.1 h1).1⟩
theorem cell_put3 {w : World} {g k j : Nat} {cur : Array Value} {ty : TypeId} (hg : w.heap[g]? = some (.cells cur ty (0, 0))) (x y z : Value) (h : j < k ∨ k + 2 < j) :
    (((w.setCell ⟨g, k, none⟩ x).setCell ⟨g, k + 1, none⟩ y).setCell ⟨g, k + 2, none⟩ z).cell? ⟨g, j, none⟩ = w.cell? ⟨g, j, none⟩ := by
  have hk := setCell_heap_self (k := k + 2) (setCell_heap_self (k := k + 1) (setCell_heap_self (k := k) hg x) y) z
  have e0 : ¬ k = j := by omega
  have e1 : ¬ k + 1 = j := by omega
  have e2 : ¬ k + 2 = j := by omega
  simp [World.cell?, hk, hg, Array.getElem?_setIfInBounds, e0, e1, e2]
theorem cell_put3_at {w : World} {g k : Nat} {cur : Array Value} {ty : TypeId} (hg : w.heap[g]? = some (.cells cur ty (0, 0))) (x y z : Value) (h : k + 2 < cur.size) :
    (((w.setCell ⟨g, k, none⟩ x).setCell ⟨g, k + 1, none⟩ y).setCell ⟨g, k + 2, none⟩ z).cell? ⟨g, k, none⟩ = some x ∧
    (((w.setCell ⟨g, k, none⟩ x).setCell ⟨g, k + 1, none⟩ y).setCell ⟨g, k + 2, none⟩ z).cell? ⟨g, k + 1, none⟩ = some y ∧
    (((w.setCell ⟨g, k, none⟩ x).setCell ⟨g, k + 1, none⟩ y).setCell ⟨g, k + 2, none⟩ z).cell? ⟨g, k + 2, none⟩ = some z := by
  have hk := setCell_heap_self (k := k + 2) (setCell_heap_self (k := k + 1) (setCell_heap_self (k := k) hg x) y) z
  have h0 : k < cur.size := by omega
  have h1 : k + 1 < cur.size := by omega
  refine ⟨?_, ?_, ?_⟩ <;> simp [World.cell?, hk, Array.getElem?_setIfInBounds, h, h0, h1]

/-- One formula of an owned row is written anew. -/
theorem OwnG.put {w : World} {B : Nat} {S S' : Nat → Prop} {g n c : Nat} {ts : List Tree} (h : OwnG w B S (.slice (some ⟨g, 0, none⟩) n c) ts) (hSS : ∀ i, S i → S' i) (hSg : ¬ S' g) (m : Nat) (hm : m < ts.length) {o : Int} {s : ByteArray} {a : Option Addr} {n' c' : Nat} {T : Tree}
    (hT : FormIn w S' (.agg #[.int .i64 o, .string s, .slice a n' c']) T) :
    FormsIn (((w.setCell ⟨g, m * 3, none⟩ (.int .i64 o)).setCell ⟨g, m * 3 + 1, none⟩ (.string s)).setCell ⟨g, m * 3 + 2, none⟩ (.slice a n' c')) (fun i => S' i ∨ i = g) (some ⟨g, 0, none⟩) (ts.set m T) := by
  have hrow := set_row3 w g (m * 3) (.int .i64 o) (.string s) (.slice a n' c')
  obtain ⟨rfl, rfl, rfl⟩ := hT.shape
  refine ⟨g, 0, fun _ => ⟨rfl, .inr rfl⟩, fun i hi => ?_⟩
  simp only [List.length_set] at hi
  rw [Nat.zero_add]
  obtain ⟨g', cur, ai, cx, ci, ea, -, -, hcur, q0, q1, q2, -, hfi⟩ := h.at i hi
  injection ea with ea
  injection ea with ea
  injection ea with ea
  subst ea
  have keep : ∀ {v : Value} {t : Tree}, FormIn w S' v t → FormIn (((w.setCell ⟨g, m * 3, none⟩ (.int .i64 T.op)).setCell ⟨g, m * 3 + 1, none⟩ (.string T.name)).setCell ⟨g, m * 3 + 2, none⟩ (.slice a T.args.length c')) (fun i => S' i ∨ i = g) v t := fun hf =>
    (hf.kept fun k hk hl => hrow.block k hl (fun e => hSg (by injection e with e; subst e; exact hk))).mono fun k _ hk => .inl hk
  by_cases e : m = i
  · subst e
    obtain ⟨-, hlt⟩ := cur_at hcur q2
    obtain ⟨c0, c1, c2⟩ := cell_put3_at hcur (.int .i64 T.op) (.string T.name) (.slice a T.args.length c') hlt
    simp only [List.getElem_set_self]
    exact ⟨a, c', c0, c1, c2, keep hT⟩
  · simp only [List.getElem_set_ne e]
    refine ⟨ai, ci, ?_, ?_, ?_, keep (hfi.mono fun k _ hk => hSS k hk)⟩
    · rw [cell_put3 hcur _ _ _ (by omega)]; exact q0
    · rw [cell_put3 hcur _ _ _ (by omega)]; exact q1
    · rw [cell_put3 hcur _ _ _ (by omega)]; exact q2
theorem OwnG.mono {w : World} {B : Nat} {S S' : Nat → Prop} {v : Value} {ts : List Tree} (h : OwnG w B S v ts) (hS : ∀ i, S i → S' i) : OwnG w B S' v ts := by
  obtain ⟨hs, h1, ho, hf⟩ := h
  exact ⟨hs, h1, ho, fun i hi hi' => (hf i hi hi').mono fun k _ hk => hS k hk⟩
theorem FormsIn.tail {w : World} {S : Nat → Prop} {g off : Nat} {t : Tree} {ts : List Tree} (h : FormsIn w S (some ⟨g, off, none⟩) (t :: ts)) : FormsIn w S (some ⟨g, off + 3, none⟩) ts := by
  obtain ⟨b', off', ha, hc⟩ := h
  obtain ⟨e, hS⟩ := ha (by simp)
  obtain ⟨rfl, rfl⟩ : g = b' ∧ off = off' := by
    injection e with e1
    injection e1 with e2 e3
    exact ⟨e2, e3⟩
  refine ⟨g, off + 3, fun _ => ⟨rfl, hS⟩, fun i hi => ?_⟩
  obtain ⟨a', c', h0, h1, h2, h3⟩ := hc (i + 1) (by simp; omega)
  simp only [List.getElem_cons_succ] at h0 h1 h2 h3
  have e : off + 3 + i * 3 = off + (i + 1) * 3 := by omega
  rw [e]
  exact ⟨a', c', h0, h1, h2, h3⟩

/-- append of one formula to a list that the call owns. -/
theorem run_append_formG {w : World} (ty : TypeId) (B : Nat) (S : Nat → Prop) (v : Value) (ts : List Tree) (hown : OwnG w B S v ts) (hS : ∀ i, S i → v.ownBlock ≠ some i)
    (m c1 : Nat) {op : Int} {nm : ByteArray} {ad : Option Addr} {n c : Nat} {tz : TypeId} (hm : w.heap[m]? = some (.cells #[.int .i64 op, .string nm, .slice ad n c] tz (0, 0))) (t : Tree)
    (hf : FormIn w S (.agg #[.int .i64 op, .string nm, .slice ad n c]) t) (hlen : ts.length ≤ 1000000) (hB : B ≤ w.heap.size) :
    ∃ a' c' w', (Builtin.append_ #[22, 22] ty #[v, .slice (some ⟨m, 0, none⟩) 1 c1]).run Tryz.prog w = .ok (.slice a' (ts.length + 1) c') w' ∧ OwnG w' B S (.slice a' (ts.length + 1) c') (ts ++ [t]) ∧ w.grownBy w' v.ownBlock ∧ ((Value.slice a' (ts.length + 1) c').ownBlock = v.ownBlock ∨ (Value.slice a' (ts.length + 1) c').ownBlock = some w.heap.size) := by
  obtain ⟨i0, hi, hz0, hz1, hz2⟩ := info_parts infoF
  obtain ⟨rfl, rfl, rfl⟩ := hf.shape
  obtain ⟨hs', h1, hrow, hfs⟩ := hown
  have hnews : ∀ j u, ((t.hd ad c).cells)[j]? = some u → w.cell? ((⟨m, 0, none⟩ : Addr).add j) = some u := by
    obtain ⟨p0, p1, p2⟩ := cell_of3 hm
    intro j u hj
    have e : (⟨m, 0, none⟩ : Addr).add j = ⟨m, j, none⟩ := by unfold Addr.add; split <;> simp_all
    rw [e]
    match j with
    | 0 => simp only [Hd.cells, Tree.hd, List.getElem?_cons_zero, Option.some.injEq] at hj; rw [← hj]; exact p0
    | 1 => simp only [Hd.cells, Tree.hd, List.getElem?_cons_zero, List.getElem?_cons_succ, Option.some.injEq] at hj; rw [← hj]; exact p1
    | 2 => simp only [Hd.cells, Tree.hd, List.getElem?_cons_zero, List.getElem?_cons_succ, Option.some.injEq] at hj; rw [← hj]; exact p2
    | j + 3 => simp [Hd.cells] at hj
  have hone : ∀ u ∈ (t.hd ad c).cells, u.oneCell' = true := fun u hu => flatF_one [t.hd ad c] u (by simpa [flatF] using hu)
  have hl : ((t.hd ad c).cells).length = 1 * i0.size := by rw [hz1]; rfl
  rw [← hz1] at hrow
  obtain ⟨v', w', hr, h2, h3, h4⟩ := run_append_own (P := Tryz.prog) w B 22 ty 24 i0 _ i0.size 48 Tryz.underlying22 hi hz0 rfl hz2 (by rw [hz1]; rfl) (by rw [hz1]; decide) v ts.length _ hrow ⟨m, 0, none⟩ 1 c1 _ hl hnews hone (by unfold maxLen; omega) (by omega) hB
  have hbl := append_block (P := Tryz.prog) (w := w) B 22 ty 24 i0 _ Tryz.underlying22 hi hz0 v ts.length _ hrow ⟨m, 0, none⟩ 1 c1 _ hl hnews hone (by omega) (by omega) (by rw [hz2]; omega) hr
  have hwp : OwnG w' B S v' (ts ++ [t]) := by
    refine ⟨hs' ++ [(ad, c)], by simp [h1], ?_, fun i hi1 hi2 => ?_⟩
    · rw [zip_snoc ts hs' t (ad, c) h1, flatF_append, List.length_append]
      rw [hz1] at h2
      have e : flatF [t.hd ad c] = (t.hd ad c).cells := by simp [flatF]
      rw [e]
      exact h2
    · have hgo : ∀ {u : Value} {y : Tree}, FormIn w S u y → FormIn w' S u y := fun hy => hy.kept (fun k hk hl => h3.block k hl (fun e => hS k hk e.symm))
      by_cases hi3 : i < ts.length
      · have := hgo (hfs i hi3 (by omega))
        simp only [List.getElem_append_left hi3, List.getElem_append_left (show i < hs'.length by omega)]
        exact this
      · have hi4 : i = ts.length := by simp at hi1; omega
        subst hi4
        have := hgo hf
        simp only [List.getElem_append_right (Nat.le_refl _), List.getElem_append_right (show hs'.length ≤ ts.length by omega), h1, Nat.sub_self, List.getElem_cons_zero]
        exact this
  obtain ⟨a', c', rfl⟩ := hwp.val
  have e : (ts ++ [t]).length = ts.length + 1 := by simp
  rw [e] at hr hwp hbl
  exact ⟨a', c', w', hr, hwp, h3, hbl⟩

theorem step_append_formG {w : World} {ops : Array Oper} {o : Oper} {a : Act} {K : Act → World → Prop} {Q : Exit → Act → World → Prop} {E : Prop} (hgd : o.guard = none) (s x : Operand)
    (ho : o.op = .call { callee := .builtin .append, args := #[s, x], argTypes := #[22, 22] }) (B : Nat) (S : Nat → Prop) (v : Value) (ts : List Tree) (hs : a.eval s = v) (hown : OwnG w B S v ts) (hS : ∀ i, S i → v.ownBlock ≠ some i)
    (m c1 : Nat) (hx : a.eval x = .slice (some ⟨m, 0, none⟩) 1 c1) {op : Int} {nm : ByteArray} {ad : Option Addr} {n c : Nat} {tz : TypeId} (hm : w.heap[m]? = some (.cells #[.int .i64 op, .string nm, .slice ad n c] tz (0, 0))) (t : Tree)
    (hf : FormIn w S (.agg #[.int .i64 op, .string nm, .slice ad n c]) t) (hlen : ts.length ≤ 1000000) (hB : B ≤ w.heap.size)
    (h : ∀ a' c' w', OwnG w' B S (.slice a' (ts.length + 1) c') (ts ++ [t]) → w.grownBy w' v.ownBlock → ((Value.slice a' (ts.length + 1) c').ownBlock = v.ownBlock ∨ (Value.slice a' (ts.length + 1) c').ownBlock = some w.heap.size) → K (a.put o.dst (.slice a' (ts.length + 1) c')) w') :
    if Region.wanted o (yielded ops a.tmps) = true then Oper.wp Tryz.prog o a w K Q else E := by
  have hw : Region.wanted o (yielded ops a.tmps) = true := by simp [Region.wanted, hgd]
  rw [if_pos hw]
  obtain ⟨a', c', w', hr, h1, h2, h3⟩ := run_append_formG (w := w) o.type B S v ts hown hS m c1 hm t hf hlen hB
  unfold Oper.wp execOp
  simp only [ho, resolve, invoke, builtin, Sem.run_bind, Sem.run_pure, Result.andThen_ok, List.map_toArray, List.map_cons, List.map_nil, hs, hx, hr]
  exact h a' c' w' h1 h2 h3

/-- The copy of a list that is not empty lies in a block that did not exist before. -/
theorem run_append_formsO {w : World} (ty : TypeId) (B nb : Nat) (hnb : B ≤ nb) (hB : B ≤ w.heap.size) (hblk : w.heap[nb]? = some (.cells #[] 24 (0, 0))) {S : Nat → Prop} {a : Option Addr} {cap : Nat} {ts : List Tree} (hf : FormsIn w S a ts) (h0 : 0 < ts.length) (hlen : ts.length ≤ 1000000) :
    ∃ v' w', (Builtin.append_ #[22, 22] ty #[.slice (some ⟨nb, 0, none⟩) 0 0, .slice a ts.length cap]).run Tryz.prog w = .ok v' w' ∧ OwnG w' B S v' ts ∧ Below w.heap.size w w' ∧ Own.newV v' w w' := by
  obtain ⟨v', w', hr, h1, h2⟩ := run_append_forms ty B nb hnb hB hblk (cap := cap) hf h0 hlen
  refine ⟨v', w', hr, h1, h2, ?_⟩
  obtain ⟨i0, hi, hz0, hz1, hz2⟩ := info_parts infoF
  obtain ⟨b, off, hs, rfl, h3, hcells, hform⟩ := hf.hs h0
  have hadd : ∀ j, (⟨b, off, none⟩ : Addr).add j = ⟨b, off + j, none⟩ := fun j => by unfold Addr.add; split <;> simp_all
  have hl : (flatF (hds ts hs)).length = ts.length * i0.size := by
    rw [flatF_len, hz1]
    simp [hds, h3]
  have hx := run_append_grow (P := Tryz.prog) w 22 ty 24 i0 _ Tryz.underlying22 hi hz0 ⟨nb, 0, none⟩ 0 0 [] (by simp) (by intro j v h; simp at h) ⟨b, off, none⟩ ts.length cap _ hl (fun j u hj => by rw [hadd]; exact hcells j u hj) (by omega) (by omega) (growslice_fits (by omega) (by rw [hz2]; omega))
  rw [hx] at hr
  injection hr with e1 e2
  subst e1 e2
  intro g hg
  simp only [Own.vblk, Option.some.injEq] at hg
  subst hg
  exact ⟨Nat.le_refl _, by simp⟩

/-- An empty list in a block of its own. -/
def isNil (L : Nat) : Value → World → Prop := fun v w => ∃ nb : Nat, v = .slice (some ⟨nb, 0, none⟩) 0 0 ∧ L ≤ nb ∧ w.heap[nb]? = some (.cells #[] 24 (0, 0))
theorem isNil_up (L : Nat) : GoesUp (isNil L) := fun _ _ _ hg ⟨nb, h1, h2, h3⟩ => ⟨nb, h1, h2, blk_kept h3 hg⟩
/-- A copy of a list. -/
def isCopy (L : Nat) (S : Nat → Prop) (ts : List Tree) : Value → World → Prop := fun v w => OwnG w L S v ts ∧ (ts.length = 0 → isNil L v w)
theorem isCopy_up (L : Nat) (S : Nat → Prop) (ts : List Tree) : GoesUp (isCopy L S ts) := fun _ _ _ hg ⟨h1, h2⟩ => ⟨h1.go hg, fun h => isNil_up L _ _ _ hg (h2 h)⟩

theorem rel_copy {W wx : World} {o : Oper} {a : Act} (s x : Operand) (ho : o.op = .call { callee := .builtin .append, args := #[s, x], argTypes := #[22, 22] }) (hC : Ext W wx) {L : Nat} (hL : L ≤ W.heap.size) {S : Nat → Prop} {ts : List Tree} {nb : Nat} (hs : a.eval s = .slice (some ⟨nb, 0, none⟩) 0 0)
    (hn : isNil L (.slice (some ⟨nb, 0, none⟩) 0 0) wx) {ad : Option Addr} {cap : Nat} (hx : a.eval x = .slice ad ts.length cap) (hf : FormsIn wx S ad ts) (hlen : ts.length ≤ 1000000) :
    Own.relUpon Tryz.prog (Ext W) Grows ⟨isCopy L S ts, decide (0 < ts.length)⟩ wx ((execOp a.eval o).run Tryz.prog wx) := by
  obtain ⟨nb', e, hnb, hblk⟩ := hn
  injection e with e
  injection e with e
  injection e with e
  subst e
  have hLw : L ≤ wx.heap.size := Nat.le_trans hL (Below.size hC)
  by_cases h0 : 0 < ts.length
  · obtain ⟨v', w', hr, h1, h2, h3⟩ := run_append_formsO (w := wx) o.type L nb hnb hLw hblk (cap := cap) hf h0 hlen
    unfold execOp
    simp only [ho, resolve, invoke, builtin, Sem.run_bind, Sem.run_pure, Result.andThen_ok, List.map_toArray, List.map_cons, List.map_nil, hs, hx, hr]
    exact ⟨hC.grown h2, h2, ⟨h1, fun h => by omega⟩, fun _ => h3⟩
  · obtain rfl : ts = [] := List.eq_nil_of_length_eq_zero (by omega)
    have hr := run_append_nothing (w := wx) o.type nb ad cap
    unfold execOp
    simp only [List.length_nil] at hx
    simp only [ho, resolve, invoke, builtin, Sem.run_bind, Sem.run_pure, Result.andThen_ok, List.map_toArray, List.map_cons, List.map_nil, hs, hx, hr]
    refine ⟨hC, Below.refl _ _, ⟨⟨[], rfl, ⟨by simp [hds, flatF], .inr ⟨nb, 0, #[], rfl, hnb, hblk, Nat.le_refl _, Nat.zero_le _, by simp, by simp [hds, flatF]⟩⟩, fun i h => by simp at h⟩, fun _ => ⟨nb, rfl, hnb, hblk⟩⟩, fun h => ?_⟩
    simp at h
end Go.Proofs.YtilkpjcbmllgmaaGreatDoor
