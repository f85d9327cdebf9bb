/- A region that draws its order, whose operations may give values that hang on the order (new memory's addresses): each such value is known by a relation of its own, laid ahead; one walk in the order of the text serves every order. An operation may lean on the relations of those temporaries alone that it looks at. withinLimits, and Validate. Texts of formulas: text, part, joined and Format of the program. Maps of strings to bools that a call made. Formulas that are built from numbers: what they are. append of one formula to a list that the call owns, as a run and at a step of a region that draws its order. The call that builds a formula out of numbers. Lists of strings that a call owns, and the call that builds a list of atoms out of numbers. Steps of the walk of XRel, and relations on formulas. The reference's reader: where it stands; take and fail. The reference's reader: implications and equivalences. formula.Parse. The reference's reader: an argument of the strength 5. The reference's reader: conjunctions and disjunctions. formula.Format. -/
import Derived.BigQuiet
import Derived.WalkKit
import Derived.Laws.EntriesVeiled
import Derived.Maps.Own
import Derived.Maps.OwnOps
import Derived.Maps.Views
import Derived.DeepKeys4
import Derived.WideKeyArgs
import Derived.Carry
import Derived.Deep.AppendLies
import Derived.Deep.RegionLaw
import Derived.LoopTactic
import Derived.OwnWalk
import Derived.BigRegion
import Derived.Deep.LoopGhost
import Derived.Test.YtilkpjcbmllgmaaDoorFpA
import Derived.Test.YtilkpjcbmllgmaaDoorFpB

namespace Go.Proofs.YtilkpjcbmllgmaaDoor
set_option linter.unusedVariables false
set_option linter.unusedSimpArgs false
open Go

section
variable (P : Program) (ops : Array Oper) (C : World → Prop) (G : World → World → Prop) (R : Tmp → Option (Value → World → Prop))

/-- What is known of the frame's temporaries in the set F, in the world w. -/
def Knows (F : Tmp → Prop) (a : Act) (w : World) : Prop := ∀ s, F s → ∀ r, R s = some r → r (a.eval (.tmp s)) w
/-- What the operation may lean on. -/
def Leans (F : Tmp → Prop) (o : Oper) (a : Act) (w : World) : Prop := ∀ s, F s → s ∈ o.looksAt ops → ∀ r, R s = some r → r (a.eval (.tmp s)) w
def KnownTo (F : Tmp → Prop) (a : Act) : Prop := ∃ w, C w ∧ Knows R F a w
def more (F : Tmp → Prop) (t : Tmp) : Tmp → Prop := fun s => s = t ∨ F s

def relUpon (r : Value → World → Prop) (w : World) : Result Next → Prop
  | .ok (.value u) w' => C w' ∧ G w w' ∧ r u w'
  | .ok .skip w' => C w' ∧ G w w' ∧ r undef w'
  | .ok (.enter f args) w' => Calls P f args w' fun e w'' => ∃ u, e = .returned u ∧ C w'' ∧ G w w'' ∧ r u w''
  | _ => False
def plainUpon (x : Value) (w : World) : Result Next → Prop
  | .ok (.value u) w' => w' = w ∧ u = x
  | .ok .skip w' => w' = w ∧ undef = x
  | _ => False

def opRel (r : Value → World → Prop) (F : Tmp → Prop) (o : Oper) (a : Act) : Prop := ∀ w, C w → Leans ops R F o a w → relUpon P C G r w ((execOp a.eval o).run P w)
def opPlain (x : Value) (F : Tmp → Prop) (o : Oper) (a : Act) : Prop := ∀ w, C w → Leans ops R F o a w → plainUpon x w ((execOp a.eval o).run P w)

/-- One operation that is carried out; what follows is asked of K. -/
def opDo (o : Oper) (K : (Tmp → Prop) → Act → Prop) (F : Tmp → Prop) (a : Act) : Prop :=
  match o.dst with
  | none => opRel P ops C G R (fun _ _ => True) F o a ∧ K F a
  | some t => match R t with
    | none => ∃ x, opPlain P ops C R x F o a ∧ K F (a.put (some t) x)
    | some r => t < a.tmps.size ∧ opRel P ops C G R r F o a ∧ ∀ v, KnownTo C R (more F t) (a.put (some t) v) → K (more F t) (a.put (some t) v)
def opAt (o : Oper) (K : (Tmp → Prop) → Act → Prop) (F : Tmp → Prop) (a : Act) : Prop :=
  (Region.wanted o (yielded ops a.tmps) = true → opDo P ops C G R o K F a) ∧ (Region.wanted o (yielded ops a.tmps) = false → K F (a.put o.dst undef))

def anyR (md : Region.Mode) (E : (Tmp → Prop) → Act → Prop) : Nat → Array Bool → (Tmp → Prop) → Act → Prop
  | 0, listed, F, a => Region.ready md ops listed = [] ∧ E F a
  | n + 1, listed, F, a => (Region.ready md ops listed = [] → E F a) ∧ ∀ i ∈ Region.ready md ops listed, ∀ o, ops[i]? = some o → opAt P ops C G R o (anyR md E n (listed.setIfInBounds i true)) F a

/-- The walk in the order of the text. -/
def walkR (E : (Tmp → Prop) → Act → Prop) : List Oper → (Tmp → Prop) → Act → Prop
  | [], F, a => E F a
  | o :: rest, F, a => opAt P ops C G R o (walkR E rest) F a
end

section
variable {P : Program} {ops : Array Oper} {C : World → Prop} {G : World → World → Prop} {R : Tmp → Option (Value → World → Prop)} {md : Region.Mode} {E : (Tmp → Prop) → Act → Prop}

def Stable (C : World → Prop) (G : World → World → Prop) (R : Tmp → Option (Value → World → Prop)) : Prop := ∀ s r, R s = some r → ∀ v w w', C w → C w' → G w w' → r v w → r v w'

theorem put_size (a : Act) (d : Option Tmp) (v : Value) : (a.put d v).tmps.size = a.tmps.size := by cases d <;> simp [Act.put]
theorem eval_put_self (a : Act) (t : Tmp) (v : Value) (h : t < a.tmps.size) : (a.put (some t) v).eval (.tmp t) = v := by simp [Act.eval, Act.put, h]
theorem eval_put_ne (a : Act) {t s : Tmp} (v : Value) (h : s ≠ t) : (a.put (some t) v).eval (.tmp s) = a.eval (.tmp s) :=
  Act.eval_put fun d hd => by injection hd with hd; subst hd; intro e; injection e with e; exact h e

theorem Knows.put {F : Tmp → Prop} {a : Act} {w : World} {d : Option Tmp} {v : Value} (hf : ∀ t, d = some t → ¬ F t) : Knows R F (a.put d v) w ↔ Knows R F a w := by
  refine ⟨fun h s hs r hr => ?_, fun h s hs r hr => ?_⟩
  · have := h s hs r hr
    rwa [Act.eval_put (fun t ht e => by injection e with e; subst e; exact hf _ ht hs)] at this
  · rw [Act.eval_put (fun t ht e => by injection e with e; subst e; exact hf _ ht hs)]
    exact h s hs r hr
theorem KnownTo.put {F : Tmp → Prop} {a : Act} {d : Option Tmp} {v : Value} (hf : ∀ t, d = some t → ¬ F t) : KnownTo C R F (a.put d v) ↔ KnownTo C R F a :=
  ⟨fun ⟨w, h, k⟩ => ⟨w, h, (Knows.put hf).1 k⟩, fun ⟨w, h, k⟩ => ⟨w, h, (Knows.put hf).2 k⟩⟩
theorem Knows.less {F : Tmp → Prop} {t : Tmp} {a : Act} {w : World} (h : Knows R (more F t) a w) : Knows R F a w := fun s hs => h s (.inr hs)
theorem Knows.leans {F : Tmp → Prop} {o : Oper} {a : Act} {w : World} (h : Knows R F a w) : Leans ops R F o a w := fun s hs _ => h s hs
theorem Knows.made (hR : Stable C G R) {F : Tmp → Prop} {a : Act} {w w' : World} {t : Tmp} {v : Value} {r : Value → World → Prop} (h : Knows R F a w) (hC : C w) (hC' : C w') (hG : G w w') (hf : ¬ F t) (ht : t < a.tmps.size) (hr : R t = some r) (hv : r v w') :
    Knows R (more F t) (a.put (some t) v) w' := by
  intro s hs r' hr'
  rcases hs with rfl | hs
  · rw [eval_put_self _ _ _ ht]
    rw [hr] at hr'
    injection hr' with hr'
    rw [← hr']
    exact hv
  · have hne : s ≠ t := fun e => hf (e ▸ hs)
    rw [eval_put_ne _ _ hne]
    exact hR s r' hr' _ w w' hC hC' hG (h s hs r' hr')
theorem Knows.grown (hR : Stable C G R) {F : Tmp → Prop} {a : Act} {w w' : World} (h : Knows R F a w) (hC : C w) (hC' : C w') (hG : G w w') : Knows R F a w' := fun s hs r hr => hR s r hr _ w w' hC hC' hG (h s hs r hr)

/-- Some outcome of an operation. -/
theorem rel_some {r : Value → World → Prop} {w : World} {x : Result Next} (h : relUpon P C G r w x) : ∃ u w', C w' ∧ G w w' ∧ r u w' := by
  unfold relUpon at h
  split at h
  · exact ⟨_, _, h⟩
  · exact ⟨_, _, h⟩
  · obtain ⟨e, w', fr, ⟨u, he, hu⟩, -⟩ := h []
    exact ⟨u, w', hu⟩
  · exact h.elim

theorem plain_same {x y : Value} {w : World} {r : Result Next} (h : plainUpon x w r) (h' : plainUpon y w r) : x = y := by
  unfold plainUpon at h h'
  split at h
  · exact h.2.symm.trans h'.2
  · exact h.2.symm.trans h'.2
  · exact h.elim

/-- From every world of the class in which what is known holds. -/
theorem wpAny_of_anyR (hR : Stable C G R) {Q : Exit → Act → World → Prop} (hE : ∀ F a w, C w → Knows R F a w → E F a → Q .normal a w) (hD : ∀ (k k' : Nat) (o o' : Oper) (t : Tmp), ops[k]? = some o → ops[k']? = some o' → o.dst = some t → o'.dst = some t → k = k') :
    ∀ (n : Nat) (listed : Array Bool) (F : Tmp → Prop) (a : Act) (w : World), (∀ (k : Nat) (o : Oper) (t : Tmp), ops[k]? = some o → listed.getD k true = false → o.dst = some t → ¬ F t) → C w → Knows R F a w → anyR P ops C G R md E n listed F a → wpAny P md ops Q n listed a w
  | 0, _, F, a, w, _, hC, hK, h => ⟨h.1, hE F a w hC hK h.2⟩
  | n + 1, listed, F, a, w, hf, hC, hK, h => by
    refine ⟨fun h0 => hE F a w hC hK (h.1 h0), fun i hi => ?_⟩
    obtain ⟨hun, o, ho, -⟩ := mem_ready.1 hi
    obtain ⟨h1, h2⟩ := h.2 i hi o ho
    have hfo := hf i o
    have hf' : ∀ (k : Nat) (o' : Oper) (t : Tmp), ops[k]? = some o' → (listed.setIfInBounds i true).getD k true = false → o'.dst = some t → ¬ F t := fun k o' t hk hl ht => by
      by_cases hki : i = k
      · subst hki; exact hf i o' t hk hun ht
      · rw [getD_set_ne true hki] at hl; exact hf k o' t hk hl ht
    have hsame : ∀ d v, o.dst = d → anyR P ops C G R md E n (listed.setIfInBounds i true) F (a.put d v) → wpAny P md ops Q n (listed.setIfInBounds i true) (a.put d v) w := fun d v hd hk =>
      wpAny_of_anyR hR hE hD n _ F _ w hf' hC ((Knows.put fun t ht => hfo t ho hun (hd.trans ht)).2 hK) hk
    unfold wpOp
    simp only [ho]
    cases hw : Region.wanted o (yielded ops a.tmps)
    · simp only [Bool.false_eq_true, if_false]
      exact hsame _ _ rfl (h2 hw)
    · simp only [if_true]
      refine .inl ?_
      have h3 := h1 hw
      unfold opDo at h3
      unfold Oper.wp
      cases hd : o.dst with
      | none =>
        simp only [hd] at h3
        obtain ⟨h4, h5⟩ := h3
        have h6 := h4 w hC hK.leans
        generalize (execOp a.eval o).run P w = x at h6 ⊢
        have fin : ∀ w', C w' → G w w' → ∀ v, wpAny P md ops Q n (listed.setIfInBounds i true) (a.put o.dst v) w' := fun w' hC' hG v => by
          rw [hd]
          exact wpAny_of_anyR hR hE hD n _ F _ w' hf' hC' (hK.grown hR hC hC' hG) h5
        unfold relUpon at h6
        split at h6
        · exact fin _ h6.1 h6.2.1 _
        · exact fin _ h6.1 h6.2.1 _
        · exact h6.mono fun e w'' ⟨u, he, hC', hG, _⟩ => by subst he; exact fin _ hC' hG _
        · exact h6.elim
      | some t =>
        simp only [hd] at h3
        cases hr : R t with
        | none =>
          simp only [hr] at h3
          obtain ⟨x, h4, h5⟩ := h3
          have h6 := h4 w hC hK.leans
          generalize (execOp a.eval o).run P w = y at h6 ⊢
          have fin := hsame (some t) x hd h5
          unfold plainUpon at h6
          split at h6
          · obtain ⟨rfl, rfl⟩ := h6
            show wpAny P md ops Q n _ (a.put o.dst _) _
            rw [hd]; exact fin
          · obtain ⟨rfl, rfl⟩ := h6
            show wpAny P md ops Q n _ (a.put o.dst _) _
            rw [hd]; exact fin
          · exact h6.elim
        | some r =>
          simp only [hr] at h3
          obtain ⟨hlt, h4, h5⟩ := h3
          have h6 := h4 w hC hK.leans
          generalize (execOp a.eval o).run P w = y at h6 ⊢
          have fin : ∀ w' v, C w' → G w w' → r v w' → wpAny P md ops Q n (listed.setIfInBounds i true) (a.put o.dst v) w' := fun w' v hC' hG hv => by
            have hk := hK.made hR hC hC' hG (hfo t ho hun hd) hlt hr hv
            rw [hd]
            refine wpAny_of_anyR hR hE hD n _ (more F t) _ w' (fun k o' t' hk' hl ht' => ?_) hC' hk (h5 v ⟨w', hC', hk⟩)
            rintro (rfl | hF)
            · obtain rfl : k = i := hD k i o' o _ hk' ho ht' hd
              have : k < listed.size := by
                rcases Nat.lt_or_ge k listed.size with h' | h'
                · exact h'
                · simp [Array.getElem?_eq_none h'] at hun
              simp [this] at hl
            · exact hf' k o' t' hk' hl ht' hF
          unfold relUpon at h6
          split at h6
          · exact fin _ _ h6.1 h6.2.1 h6.2.2
          · exact fin _ _ h6.1 h6.2.1 h6.2.2
          · exact h6.mono fun e w'' ⟨u, he, hC', hG, hv⟩ => by subst he; exact fin _ _ hC' hG hv
          · exact h6.elim

theorem Leans.put {F : Tmp → Prop} {o : Oper} {a : Act} {w : World} {d : Option Tmp} {v : Value} (h : ∀ t, d = some t → t ∉ o.looksAt ops) : Leans ops R F o (a.put d v) w ↔ Leans ops R F o a w := by
  refine ⟨fun h1 s hs hl r hr => ?_, fun h1 s hs hl r hr => ?_⟩
  · have := h1 s hs hl r hr
    rwa [Act.eval_put (fun t ht e => by injection e with e; subst e; exact h _ ht hl)] at this
  · rw [Act.eval_put (fun t ht e => by injection e with e; subst e; exact h _ ht hl)]
    exact h1 s hs hl r hr
theorem Leans.more_iff {F : Tmp → Prop} {o : Oper} {a : Act} {w : World} {t : Tmp} (h : t ∉ o.looksAt ops) : Leans ops R (more F t) o a w ↔ Leans ops R F o a w :=
  ⟨fun h1 s hs => h1 s (.inr hs), fun h1 s hs hl => by
    rcases hs with rfl | hs
    · exact absurd hl h
    · exact h1 s hs hl⟩

variable (hsel : ∀ (j : Nat) (o : Oper) cs b, ops[j]? = some o → o.op ≠ .select cs b)

theorem opRel_put {o : Oper} {r : Value → World → Prop} {F : Tmp → Prop} {a : Act} {d : Option Tmp} {v : Value} (hs : ∀ cs b, o.op ≠ .select cs b) (h : ∀ t, d = some t → t ∉ o.looksAt ops) : opRel P ops C G R r F o (a.put d v) ↔ opRel P ops C G R r F o a := by
  unfold opRel
  rw [execOp_put (ops := ops) o hs a d v h]
  exact forall_congr' fun w => forall_congr' fun _ => by rw [Leans.put h]
theorem opRel_more {o : Oper} {r : Value → World → Prop} {F : Tmp → Prop} {a : Act} {t : Tmp} (h : t ∉ o.looksAt ops) : opRel P ops C G R r (more F t) o a ↔ opRel P ops C G R r F o a := by
  unfold opRel
  exact forall_congr' fun w => forall_congr' fun _ => by rw [Leans.more_iff h]
theorem opPlain_put {o : Oper} {x : Value} {F : Tmp → Prop} {a : Act} {d : Option Tmp} {v : Value} (hs : ∀ cs b, o.op ≠ .select cs b) (h : ∀ t, d = some t → t ∉ o.looksAt ops) : opPlain P ops C R x F o (a.put d v) ↔ opPlain P ops C R x F o a := by
  unfold opPlain
  rw [execOp_put (ops := ops) o hs a d v h]
  exact forall_congr' fun w => forall_congr' fun _ => by rw [Leans.put h]
theorem opPlain_more {o : Oper} {x : Value} {F : Tmp → Prop} {a : Act} {t : Tmp} (h : t ∉ o.looksAt ops) : opPlain P ops C R x (more F t) o a ↔ opPlain P ops C R x F o a := by
  unfold opPlain
  exact forall_congr' fun w => forall_congr' fun _ => by rw [Leans.more_iff h]

theorem more_comm (F : Tmp → Prop) (s t : Tmp) : more (more F s) t = more (more F t) s := by
  funext x
  exact propext ⟨fun h => by rcases h with h | h | h <;> simp [more, h], fun h => by rcases h with h | h | h <;> simp [more, h]⟩

theorem not_more {F : Tmp → Prop} {s t : Tmp} (h : ¬ F s) (hne : s ≠ t) : ¬ more F t s := fun hm => by
  rcases hm with rfl | hm
  · exact hne rfl
  · exact h hm
/-- How an operation goes: by one value (some x), or by its relation (none). -/
def Ev (P : Program) (ops : Array Oper) (C : World → Prop) (G : World → World → Prop) (R : Tmp → Option (Value → World → Prop)) (o : Oper) (F : Tmp → Prop) (a : Act) : Option Value → Prop
  | some x => (Region.wanted o (yielded ops a.tmps) = false ∧ x = undef) ∨ (Region.wanted o (yielded ops a.tmps) = true ∧ ((o.dst = none ∧ opRel P ops C G R (fun _ _ => True) F o a ∧ x = undef) ∨ ∃ t, o.dst = some t ∧ R t = none ∧ opPlain P ops C R x F o a))
  | none => Region.wanted o (yielded ops a.tmps) = true ∧ ∃ t r, o.dst = some t ∧ R t = some r ∧ t < a.tmps.size ∧ opRel P ops C G R r F o a

theorem opAt_iff {o : Oper} {K : (Tmp → Prop) → Act → Prop} {F : Tmp → Prop} {a : Act} : opAt P ops C G R o K F a ↔
    (∃ x, Ev P ops C G R o F a (some x) ∧ K F (a.put o.dst x)) ∨ (Ev P ops C G R o F a none ∧ ∀ t, o.dst = some t → ∀ v, KnownTo C R (more F t) (a.put (some t) v) → K (more F t) (a.put (some t) v)) := by
  unfold opAt Ev
  cases hw : Region.wanted o (yielded ops a.tmps)
  · constructor
    · rintro ⟨-, h⟩
      exact .inl ⟨undef, .inl ⟨rfl, rfl⟩, h rfl⟩
    · rintro (⟨x, (⟨-, rfl⟩ | ⟨h, -⟩), hk⟩ | ⟨⟨h, -⟩, -⟩)
      · exact ⟨fun h => (by cases h), fun _ => hk⟩
      · cases h
      · cases h
  · unfold opDo
    cases hd : o.dst with
    | none =>
      constructor
      · rintro ⟨h, -⟩
        obtain ⟨h1, h2⟩ := h (by trivial)
        exact .inl ⟨undef, .inr ⟨by trivial, .inl ⟨rfl, h1, rfl⟩⟩, h2⟩
      · rintro (⟨x, (⟨h, -⟩ | ⟨-, (⟨-, h1, -⟩ | ⟨t, h, -⟩)⟩), hk⟩ | ⟨⟨-, t, r, h, -⟩, -⟩)
        · cases h
        · exact ⟨fun _ => ⟨h1, hk⟩, fun h => by cases h⟩
        · cases h
        · cases h
    | some t =>
      cases hr : R t with
      | none =>
        simp only [hr]
        constructor
        · rintro ⟨h, -⟩
          obtain ⟨x, h1, h2⟩ := h (by trivial)
          exact .inl ⟨x, .inr ⟨by trivial, .inr ⟨t, rfl, hr, h1⟩⟩, h2⟩
        · rintro (⟨x, (⟨h, -⟩ | ⟨-, (⟨h, -⟩ | ⟨t', h, hr', h1⟩)⟩), hk⟩ | ⟨⟨-, t', r, h, hr', -⟩, -⟩)
          · cases h
          · cases h
          · exact ⟨fun _ => ⟨x, h1, hk⟩, fun h => by cases h⟩
          · injection h with h
            subst h
            rw [hr] at hr'
            cases hr'
      | some r =>
        simp only [hr]
        constructor
        · rintro ⟨h, -⟩
          obtain ⟨h1, h2, h3⟩ := h (by trivial)
          refine .inr ⟨⟨by trivial, t, r, rfl, hr, h1, h2⟩, fun t' ht' => ?_⟩
          injection ht' with ht'
          subst ht'
          exact h3
        · rintro (⟨x, (⟨h, -⟩ | ⟨-, (⟨h, -⟩ | ⟨t', h, hr', h1⟩)⟩), hk⟩ | ⟨⟨-, t', r', h, hr', h1, h2⟩, h3⟩)
          · cases h
          · cases h
          · injection h with h
            subst h
            rw [hr] at hr'
            cases hr'
          · injection h with h
            subst h
            rw [hr] at hr'
            injection hr' with hr'
            subst hr'
            exact ⟨fun _ => ⟨h1, h2, h3 _ rfl⟩, fun h => by cases h⟩

theorem Ev.put {o : Oper} {F : Tmp → Prop} {a : Act} {d : Option Tmp} {v : Value} {y : Option Value} (hs : ∀ cs b, o.op ≠ .select cs b) (h : ∀ t, d = some t → t ∉ o.looksAt ops) : Ev P ops C G R o F (a.put d v) y ↔ Ev P ops C G R o F a y := by
  cases y with
  | none => simp only [Ev, wanted_put o a d v h, opRel_put hs h, put_size]
  | some x => simp only [Ev, wanted_put o a d v h, opRel_put hs h, opPlain_put hs h]
theorem Ev.more {o : Oper} {F : Tmp → Prop} {a : Act} {t : Tmp} {y : Option Value} (h : t ∉ o.looksAt ops) : Ev P ops C G R o (more F t) a y ↔ Ev P ops C G R o F a y := by
  cases y with
  | none => simp only [Ev, opRel_more h]
  | some x => simp only [Ev, opRel_more h, opPlain_more h]

theorem Ev.same {o : Oper} {F : Tmp → Prop} {a : Act} {x : Value} {y : Option Value} (hk : KnownTo C R F a) (h : Ev P ops C G R o F a (some x)) (h' : Ev P ops C G R o F a y) : y = some x := by
  obtain ⟨w, hC, hK⟩ := hk
  cases y with
  | none =>
    obtain ⟨h1, t, r, h2, h3, -⟩ := h'
    rcases h with ⟨h4, -⟩ | ⟨-, (⟨h4, -⟩ | ⟨t', h4, h5, -⟩)⟩
    · rw [h1] at h4; cases h4
    · rw [h2] at h4; cases h4
    · rw [h2] at h4
      injection h4 with h4
      subst h4
      rw [h3] at h5
      cases h5
  | some y =>
    rcases h with ⟨h1, rfl⟩ | ⟨h1, (⟨h4, -, rfl⟩ | ⟨t, h4, h5, h6⟩)⟩ <;> rcases h' with ⟨k1, rfl⟩ | ⟨k1, (⟨k4, -, rfl⟩ | ⟨t', k4, k5, k6⟩)⟩
    · rfl
    · rfl
    · rw [h1] at k1; cases k1
    · rfl
    · rfl
    · rw [h4] at k4; cases k4
    · rw [h1] at k1; cases k1
    · rw [h4] at k4; cases k4
    · rw [plain_same (h6 w hC hK.leans) (k6 w hC hK.leans)]

theorem Ev.some_value (hR : Stable C G R) {o : Oper} {F : Tmp → Prop} {a : Act} {t : Tmp} (hk : KnownTo C R F a) (hf : ¬ F t) (ht : o.dst = some t) (h : Ev P ops C G R o F a none) : ∃ v, KnownTo C R (Go.Proofs.YtilkpjcbmllgmaaDoor.more F t) (a.put (some t) v) := by
  obtain ⟨w, hC, hK⟩ := hk
  obtain ⟨-, t', r, h2, h3, h4, h5⟩ := h
  rw [ht] at h2
  injection h2 with h2
  subst h2
  obtain ⟨u, w', hC', hG, hu⟩ := rel_some (h5 w hC hK.leans)
  exact ⟨u, w', hC', hK.made hR hC hC' hG hf h4 h3 hu⟩

theorem opAt_mono {o : Oper} {K K' : (Tmp → Prop) → Act → Prop} {F : Tmp → Prop} {a : Act} (hk : KnownTo C R F a) (hf : ∀ t, o.dst = some t → ¬ F t)
    (h : ∀ F1 a1, KnownTo C R F1 a1 → (F1 = F ∨ ∃ t, o.dst = some t ∧ F1 = more F t) → K F1 a1 → K' F1 a1) (hh : opAt P ops C G R o K F a) : opAt P ops C G R o K' F a := by
  rw [opAt_iff] at *
  rcases hh with ⟨x, h1, h2⟩ | ⟨h1, h2⟩
  · exact .inl ⟨x, h1, h _ _ ((KnownTo.put hf).2 hk) (.inl rfl) h2⟩
  · exact .inr ⟨h1, fun t ht v hv => h _ _ hv (.inr ⟨t, ht, rfl⟩) (h2 t ht v hv)⟩

theorem opAt_some (hR : Stable C G R) {o : Oper} {K : (Tmp → Prop) → Act → Prop} {F : Tmp → Prop} {a : Act} (hk : KnownTo C R F a) (hf : ∀ t, o.dst = some t → ¬ F t) (hh : opAt P ops C G R o K F a) : ∃ F' a', K F' a' := by
  rw [opAt_iff] at hh
  rcases hh with ⟨x, h1, h2⟩ | ⟨h1, h2⟩
  · exact ⟨_, _, h2⟩
  · obtain ⟨-, t, r, ht, -⟩ := id h1
    obtain ⟨v, hv⟩ := h1.some_value hR hk (hf t ht) ht
    exact ⟨_, _, h2 t ht v hv⟩

theorem opAt_swap (hR : Stable C G R) {oi oj : Oper} {K : (Tmp → Prop) → Act → Prop} {F : Tmp → Prop} {a : Act} (hap : oi.apart ops oj = true) (hsi : ∀ cs b, oi.op ≠ .select cs b) (hsj : ∀ cs b, oj.op ≠ .select cs b)
    (hk : KnownTo C R F a) (hfi : ∀ t, oi.dst = some t → ¬ F t) (hfj : ∀ t, oj.dst = some t → ¬ F t)
    (h : opAt P ops C G R oi (fun F1 a1 => opAt P ops C G R oj K F1 a1) F a) : opAt P ops C G R oj (fun F2 a2 => opAt P ops C G R oi K F2 a2) F a := by
  obtain ⟨a1, a2, a3⟩ := Oper.apart_spec hap
  have hne : ∀ s t, oi.dst = some s → oj.dst = some t → s ≠ t := fun s t hs ht e => a2 s hs (by rw [ht, e])
  have hmi : ∀ t, oj.dst = some t → ∀ s, oi.dst = some s → ¬ more F t s := fun t ht s hs => not_more (hfi s hs) (hne s t hs ht)
  have hmj : ∀ t, oi.dst = some t → ∀ s, oj.dst = some s → ¬ more F t s := fun t ht s hs => not_more (hfj s hs) (fun e => hne t s ht hs e.symm)
  simp only [opAt_iff] at *
  rcases h with ⟨x, h1, ⟨y, h2, h3⟩ | ⟨h2, h3⟩⟩ | ⟨h1, h3⟩
  · refine .inl ⟨y, (Ev.put hsj a1).1 h2, .inl ⟨x, (Ev.put hsi a3).2 h1, ?_⟩⟩
    rw [← Act.put_comm a x y a2]
    exact h3
  · refine .inr ⟨(Ev.put hsj a1).1 h2, fun t ht v hv => .inl ⟨x, ?_, ?_⟩⟩
    · exact (Ev.more (a3 t ht)).2 ((Ev.put hsi (fun s hs => by injection hs with hs; subst hs; exact a3 _ ht)).2 h1)
    · have e := Act.put_comm a (x := oi.dst) (y := some t) x v (fun d hd => by rw [← ht]; exact a2 d hd)
      rw [← e]
      refine h3 t ht v ?_
      rw [e]
      exact (KnownTo.put (hmi t ht)).2 hv
  · obtain ⟨-, t, r, ht, -⟩ := id h1
    have e : ∀ y v, (a.put (some t) v).put oj.dst y = (a.put oj.dst y).put (some t) v := fun y v => Act.put_comm a v y (fun d hd => by injection hd with hd; subst hd; exact a2 t ht)
    obtain ⟨v0, hv0⟩ := h1.some_value hR hk (hfi t ht) ht
    have down : ∀ v z, Ev P ops C G R oj (more F t) (a.put (some t) v) z → Ev P ops C G R oj F a z := fun v z hz => (Ev.put hsj (fun s hs => by injection hs with hs; subst hs; exact a1 _ ht)).1 ((Ev.more (a1 t ht)).1 hz)
    rcases h3 t ht v0 hv0 with ⟨y0, h4, h5⟩ | ⟨h4, h5⟩
    · refine .inl ⟨y0, down _ _ h4, .inr ⟨(Ev.put hsi a3).2 h1, fun t' ht' v hv => ?_⟩⟩
      obtain rfl : t = t' := by rw [ht] at ht'; injection ht'
      rw [← e] at hv ⊢
      have hv' := (KnownTo.put (hmj t ht)).1 hv
      rcases h3 t ht v hv' with ⟨y, h6, h7⟩ | ⟨h6, h7⟩
      · have h8 := Ev.same hk (down _ _ h4) (down _ _ h6)
        injection h8 with h8
        rw [h8] at h7
        exact h7
      · have h8 := Ev.same hk (down _ _ h4) (down _ _ h6)
        cases h8
    · refine .inr ⟨down _ _ h4, fun s hs u hu => .inr ⟨?_, fun t' ht' v hv => ?_⟩⟩
      · exact (Ev.more (a3 s hs)).2 ((Ev.put hsi (fun s' hs' => by injection hs' with hs'; subst hs'; exact a3 _ hs)).2 h1)
      · obtain rfl : t = t' := by rw [ht] at ht'; injection ht'
        have e2 : (a.put (some t) v).put (some s) u = (a.put (some s) u).put (some t) v := by rw [← hs]; exact e u v
        rw [more_comm, ← e2] at hv ⊢
        have hv' : KnownTo C R (more F t) (a.put (some t) v) := by
          obtain ⟨w, hC, hK⟩ := hv
          exact ⟨w, hC, (Knows.put (d := some s) (fun s' hs' => by injection hs' with hs'; subst hs'; exact hmj t ht _ hs)).1 hK.less⟩
        rcases h3 t ht v hv' with ⟨y, h6, h7⟩ | ⟨h6, h7⟩
        · have h8 := Ev.same hk (down _ _ h6) (down _ _ h4)
          cases h8
        · exact h7 s hs u hv

theorem fresh_next (hD : ∀ (k k' : Nat) (o o' : Oper) (t : Tmp), ops[k]? = some o → ops[k']? = some o' → o.dst = some t → o'.dst = some t → k = k') {listed : Array Bool} {F F1 : Tmp → Prop} {i : Nat} {oi : Oper} (hi : ops[i]? = some oi) (hun : listed.getD i true = false)
    (hf : ∀ (k : Nat) (o : Oper) (t : Tmp), ops[k]? = some o → listed.getD k true = false → o.dst = some t → ¬ F t) (h1 : F1 = F ∨ ∃ t, oi.dst = some t ∧ F1 = more F t) :
    ∀ (k : Nat) (o : Oper) (t : Tmp), ops[k]? = some o → (listed.setIfInBounds i true).getD k true = false → o.dst = some t → ¬ F1 t := by
  intro k o t hk hl ht
  have hki : i ≠ k := fun e => by
    subst e
    have : i < listed.size := by
      rcases Nat.lt_or_ge i listed.size with h' | h'
      · exact h'
      · simp [Array.getElem?_eq_none h'] at hun
    simp [this] at hl
  rw [getD_set_ne true hki] at hl
  rcases h1 with rfl | ⟨s, hs, rfl⟩
  · exact hf k o t hk hl ht
  · exact not_more (hf k o t hk hl ht) (fun e => hki (hD i k oi o s hi hk hs (by rw [ht, e])))

theorem anyR_first (hR : Stable C G R) (hD : ∀ (k k' : Nat) (o o' : Oper) (t : Tmp), ops[k]? = some o → ops[k']? = some o' → o.dst = some t → o'.dst = some t → k = k') (hsel : ∀ (j : Nat) (o : Oper) cs b, ops[j]? = some o → o.op ≠ .select cs b) {i : Nat} {oi : Oper} (hi : ops[i]? = some oi) :
    ∀ (n : Nat) (listed : Array Bool) (F : Tmp → Prop) (a : Act),
      (∀ j oj, ops[j]? = some oj → j ≠ i → listed.getD j true = false → (∀ e ∈ oj.after, Region.binds md e = true → e.on ≠ i) → oi.apart ops oj = true) →
      i ∈ Region.ready md ops listed → (∀ (k : Nat) (o : Oper) (t : Tmp), ops[k]? = some o → listed.getD k true = false → o.dst = some t → ¬ F t) → KnownTo C R F a →
      opAt P ops C G R oi (anyR P ops C G R md E n (listed.setIfInBounds i true)) F a → anyR P ops C G R md E (n + 1) listed F a := by
  intro n
  induction n with
  | zero =>
    intro listed F a _ hr hf hk H
    have hun := (mem_ready.1 hr).1
    refine ⟨fun h => (by rw [h] at hr; cases hr), fun j hj oj hoj => ?_⟩
    by_cases hji : j = i
    · subst hji
      rw [hi] at hoj
      injection hoj with hoj
      subst hoj
      exact H
    · obtain ⟨F', a', h0, -⟩ := opAt_some hR hk (fun t ht => hf i oi t hi hun ht) H
      have := ready_mono hj hji
      rw [h0] at this
      cases this
  | succ n ih =>
    intro listed F a hfree hr hf hk H
    have hun := (mem_ready.1 hr).1
    refine ⟨fun h => (by rw [h] at hr; cases hr), fun j hj oj hoj => ?_⟩
    by_cases hji : j = i
    · subst hji
      rw [hi] at hoj
      injection hoj with hoj
      subst hoj
      exact H
    · obtain ⟨hjun, oj', hoj', hall⟩ := mem_ready.1 hj
      rw [hoj] at hoj'
      injection hoj' with hoj'
      subst hoj'
      have hnot : ∀ e ∈ oj.after, Region.binds md e = true → e.on ≠ i := fun e he hb heq => by
        have h1 := hall e he hb
        rw [heq] at h1
        rcases Nat.lt_or_ge i listed.size with h' | h'
        · simp [h'] at hun h1; rw [hun] at h1; cases h1
        · simp [Array.getElem?_eq_none h'] at h1
      have hap := hfree j oj hoj hji hjun hnot
      have hfi : ∀ t, oi.dst = some t → ¬ F t := fun t ht => hf i oi t hi hun ht
      have hfj : ∀ t, oj.dst = some t → ¬ F t := fun t ht => hf j oj t hoj hjun ht
      have h1 := opAt_swap hR (K := anyR P ops C G R md E n ((listed.setIfInBounds i true).setIfInBounds j true)) hap (fun cs b => hsel i oi cs b hi) (fun cs b => hsel j oj cs b hoj) hk hfi hfj
        (opAt_mono hk hfi (fun F1 a1 _ _ h2 => h2.2 j (ready_mono hj hji) oj hoj) H)
      refine opAt_mono hk hfj (fun F1 a1 hk1 hF1 h2 => ?_) h1
      rw [Array.setIfInBounds_comm _ _ (Ne.symm hji)] at h2
      refine ih (listed.setIfInBounds j true) F1 a1 (fun k ok hok hki hun' hno => ?_) (ready_mono hr (Ne.symm hji)) (fresh_next hD hoj hjun hf hF1) hk1 h2
      refine hfree k ok hok hki ?_ hno
      by_cases hjk : j = k
      · subst hjk; exact hjun
      · rw [getD_set_ne true hjk] at hun'; exact hun'

theorem walkR_any (hR : Stable C G R) (hD : ∀ (k k' : Nat) (o o' : Oper) (t : Tmp), ops[k]? = some o → ops[k']? = some o' → o.dst = some t → o'.dst = some t → k = k') (hs : Region.noSelect ops = true) :
    ∀ (l : List Oper) (k : Nat) (listed : Array Bool) (F : Tmp → Prop) (a : Act), (∀ j, l[j]? = ops[k + j]?) → Region.lexFrom md ops l.length k listed = true →
      (∀ (k : Nat) (o : Oper) (t : Tmp), ops[k]? = some o → listed.getD k true = false → o.dst = some t → ¬ F t) → KnownTo C R F a → walkR P ops C G R E l F a → anyR P ops C G R md E l.length listed F a
  | [], _, _, _, _, _, hB, _, _, h => ⟨by simpa [Region.lexFrom] using hB, h⟩
  | o :: l, k, listed, F, a, hl, hB, hf, hk, h => by
    have h0 : ops[k]? = some o := by simpa using (hl 0).symm
    simp only [List.length_cons, Region.lexFrom, Bool.and_eq_true] at hB
    obtain ⟨⟨hr, hfr⟩, hB'⟩ := hB
    have hr' : k ∈ Region.ready md ops listed := by simpa using hr
    have hun := (mem_ready.1 hr').1
    refine anyR_first hR hD (Region.noSelect_spec hs) h0 l.length listed F a (Region.free_spec h0 hfr) hr' hf hk ?_
    refine opAt_mono hk (fun t ht => hf k o t h0 hun ht) (fun F1 a1 hk1 hF1 h2 => ?_) (show opAt P ops C G R o (walkR P ops C G R E l) F a from h)
    exact walkR_any hR hD hs l (k + 1) _ F1 a1 (fun j => by have := hl (j + 1); simpa [Nat.add_assoc, Nat.add_comm 1 j] using this) hB' (fresh_next hD h0 hun hf hF1) hk1 h2

/-- No two operations write one temporary. -/
def apartDst (l : List Oper) : Bool := (List.range l.length).all fun k => (List.range l.length).all fun k' => k == k' || match (l[k]?).bind (·.dst), (l[k']?).bind (·.dst) with
  | some s, some t => s != t
  | _, _ => true
theorem apartDst_spec {l : List Oper} (h : apartDst l = true) (k k' : Nat) (o o' : Oper) (t : Tmp) (ho : l.toArray[k]? = some o) (ho' : l.toArray[k']? = some o') (hd : o.dst = some t) (hd' : o'.dst = some t) : k = k' := by
  simp only [List.getElem?_toArray] at ho ho'
  have hk : k < l.length := (List.getElem?_eq_some_iff.1 ho).1
  have hk' : k' < l.length := (List.getElem?_eq_some_iff.1 ho').1
  simp only [apartDst, List.all_eq_true, List.mem_range] at h
  have h1 := h k hk k' hk'
  rw [ho, ho'] at h1
  simp only [Option.bind_some, hd, hd', bne_self_eq_false, Bool.or_false, beq_iff_eq] at h1
  exact h1

/-- **A region whose operations are written out, in a class of worlds, with relations.** -/
theorem wp_region_rel {P : Program} (C : World → Prop) (G : World → World → Prop) (R : Tmp → Option (Value → World → Prop)) {id : Nat} {Q : Exit → Act → World → Prop} {a : Act} {w : World} {l : List Oper}
    (hm : P.follows .mixedOrders = true) (hB : Region.lexB .any l.toArray = true) (hA : apartDst l = true) (hR : Stable C G R) (hC : C w.drew)
    (h : walkR P l.toArray C G R (fun F a' => ∀ w', C w' → Knows R F a' w' → Q .normal a' w') l (fun _ => False) a) : (Code.region id l.toArray true).wp P Q a w := by
  simp only [Region.lexB, Bool.and_eq_true] at hB
  have hD := apartDst_spec hA
  have hk : ∀ w, Knows R (fun _ => False) a w := fun w s hs => hs.elim
  refine wp_region_any hm (wpAny_of_anyR hR (E := fun F a' => ∀ w', C w' → Knows R F a' w' → Q .normal a' w') (fun F a w hC hK h => h w hC hK) hD _ _ (fun _ => False) a _ (fun _ _ _ _ _ _ h => h) hC (hk _) ?_)
  have := walkR_any (md := .any) hR hD hB.1 l 0 (Array.replicate l.toArray.size false) (fun _ => False) a (by simp) (by simpa using hB.2) (fun _ _ _ _ _ _ h => h) ⟨_, hC, hk _⟩ h
  simpa using this
end
end Go.Proofs.YtilkpjcbmllgmaaDoor

namespace Go.Proofs.YtilkpjcbmllgmaaDoor
set_option linter.unusedVariables false
set_option linter.unusedSimpArgs false
open Go.RowKit

/-- May a tree stand at this depth behind so many nodes? -/
def fitsAt (c d : Nat) (t : Tree) : Bool := decide (c + t.nodes ≤ 600 ∧ d + t.depth ≤ 20)

theorem enters_kindFits : Enters 35 := enters_of Tryd.func35 (by kernel_rfl) rfl
theorem enters_nameFits : Enters 36 := enters_of Tryd.func36 (by kernel_rfl) rfl

/-- What Validate answers. -/
def valE (t : Tree) : Int := if fitsAt 0 0 t then (if t.all kindB then (if t.all nameB then 0 else 3) else 4) else 2

/-- What the closure's variables hold: the count, and the closure itself. -/
structure WAt (w : World) (n v : Nat) (c : Nat) : Prop where
  hn : w.heap[n]? = some (.cells #[.int .i64 c] 3 (0, 0))
  hv : w.heap[v]? = some (.cells #[.func (.func 55) #[] #[.pointer (some ⟨n, 0, none⟩), .pointer (some ⟨v, 0, none⟩)]] 79 (0, 0))
  hne : n ≠ v

section
variable {w w' : World} {n v c : Nat}
theorem WAt.kept (h : WAt w n v c) (hb : Below w.heap.size w w') : WAt w' n v c :=
  ⟨blk_kept h.hn hb, blk_kept h.hv hb, h.hne⟩
theorem WAt.alloc (h : WAt w n v c) (o : Obj) : WAt (w.alloc o) n v c := h.kept ((Below.refl _ _).alloc (Nat.le_refl _) o)
theorem WAt.set (h : WAt w n v c) (c' : Nat) : WAt (w.setCell ⟨n, 0, none⟩ (.int .i64 c')) n v c' :=
  ⟨one_setCell h.hn, by rw [Below.heap_setCell _ _ _ _ (fun e => h.hne (by simpa using e.symm))]; exact h.hv, h.hne⟩
theorem WAt.drewN (h : WAt w n v c) (k : Nat) : WAt (w.drewN k) n v c := ⟨h.hn, h.hv, h.hne⟩
end

theorem fitsAt_many {c d op name ts} (h : 600 ≤ c) : fitsAt c d (.node op name ts) = false := by
  exact decide_eq_false (by simp only [Tree.nodes]; omega)
theorem fitsAt_deep {c d op name ts} (h : 20 < d) : fitsAt c d (.node op name ts) = false := by
  exact decide_eq_false (by simp only [Tree.nodes]; omega)
/-- The arguments so far fit. -/
def fitL (c d : Nat) (l : List Tree) : Prop := c + 1 + nodesL l ≤ 600 ∧ d + depthL l ≤ 20
theorem fitL_step {c d k : Nat} {ts : List Tree} (hk : k < ts.length) (h : fitL c d (ts.take k)) (hf : fitsAt (c + 1 + nodesL (ts.take k)) (d + 1) ts[k] = true) : fitL c d (ts.take (k + 1)) := by
  unfold fitL at *
  rw [nodesL_take ts k hk, depthL_take ts k hk]
  have hf := of_decide_eq_true hf
  omega
theorem fitL_no {c d k : Nat} {op : Int} {name : ByteArray} {ts : List Tree} (hk : k < ts.length) (hf : fitsAt (c + 1 + nodesL (ts.take k)) (d + 1) ts[k] = false) : fitsAt c d (.node op name ts) = false := by
  have hf := of_decide_eq_false hf
  refine decide_eq_false ?_
  simp only [Tree.nodes, Tree.depth]
  have h1 := nodesL_take ts k hk
  have h2 := nodesL_take_le ts (k + 1)
  have h3 := depthL_take ts k hk
  have h4 := depthL_take_le ts (k + 1)
  omega
theorem fitL_all {c d : Nat} {op : Int} {name : ByteArray} {ts : List Tree} (h : fitL c d ts) : fitsAt c d (.node op name ts) = true := by
  unfold fitL at h
  refine decide_eq_true ?_
  simp only [Tree.nodes, Tree.depth]
  omega

set_option maxRecDepth 100000 in
set_option maxHeartbeats 1000000 in
theorem within1_any : ∀ (t : Tree) (v : Value) (n vb c d : Nat) (w : World), FormAt w (some n) v t → WAt w n vb c → c ≤ 600 → d ≤ 21 →
    Calls Tryd.prog 55 #[v, .int .i64 d, .pointer (some ⟨n, 0, none⟩), .pointer (some ⟨vb, 0, none⟩)] w fun e w' => e = .returned (.bool (fitsAt c d t)) ∧ w.grownBy w' (some n) ∧ ∃ c', WAt w' n vb c' ∧ (fitsAt c d t = true → c' = c + t.nodes) := by
  refine Tree.ind fun op name ts ih v n vb c d w hv hw hc hd => ?_
  have HW := hidIt hw
  obtain ⟨a, cap, b, off, rfl, hop, hname, hlen, hcap, ha, hcl⟩ := hv.form
  simp only [Tree.op_node, Tree.name_node, Tree.args_node] at *
  have HA := hidIt ha
  have HC := hidIt hcl
  have IH := hidIt ih
  unfold maxLen at hcap
  obtain ⟨hn, hvb, hne⟩ := hw
  have n0 : w.cell? ⟨n, 0, none⟩ = some (.int .i64 c) := cell_of_one hn
  have f0 := free_of_one hn
  have v0 := cell_of_one hvb
  have hnlt := lt_of_block hn
  have hvlt := lt_of_block hvb
  have hnb : w.heap.size ≠ n := by omega
  clear ha hcl ih hv hn hvb
  by_cases hc1 : 600 ≤ c
  · have HF := hidIt (fitsAt_many (d := d) (op := op) (name := name) (ts := ts) hc1)
    have h1 : (600 : Int) < (c : Int) + 1 := by omega
    go_enter Tryd.func55, Tryd.ntmps55
    go_wp2_with fail
    go_ret
    exact ⟨ret_bool HF.out.symm, only_alloc (only_setCell (only_refl _ _) (.inl rfl) _) _, c + 1, (HW.out.set (c + 1)).alloc _, fun h => by rw [HF.out] at h; cases h⟩
  by_cases hd1 : 20 < d
  · have HF := hidIt (fitsAt_deep (c := c) (op := op) (name := name) (ts := ts) hd1)
    have h1 : decide ((600 : Int) < (c : Int) + 1) = false := by simp; omega
    have h2 : (20 : Int) < (d : Int) := by omega
    go_enter Tryd.func55, Tryd.ntmps55
    go_wp2_with fail
    go_ret
    exact ⟨ret_bool HF.out.symm, only_alloc (only_setCell (only_refl _ _) (.inl rfl) _) _, c + 1, (HW.out.set (c + 1)).alloc _, fun h => by rw [HF.out] at h; cases h⟩
  have h1 : decide ((600 : Int) < (c : Int) + 1) = false := by simp; omega
  have h2 : decide ((20 : Int) < (d : Int)) = false := by simp; omega
  go_enter Tryd.func55, Tryd.ntmps55
  go_wp2_with fail
  go_loopw [20] (fun i wr => ∃ k : Nat, k ≤ ts.length ∧ i = .int .i64 k ∧ Hid (fitL c d (ts.take k)) ∧ Hid (WAt wr n vb (c + 1 + nodesL (ts.take k))) ∧ Hid (w.grownBy wr (some n))) (fun i _ => ts.length - (intOf i).toNat)
  case atStart => exact ⟨0, Nat.zero_le _, rfl, (show fitL c d [] by unfold fitL; simp [nodesL, depthL]; omega), (HW.out.set (c + 1)).alloc _, only_alloc (only_setCell (only_refl _ _) (.inl rfl) _) _⟩
  case round =>
    obtain ⟨k, hk, rfl, hfit, hwat, hgr⟩ := hrel
    clear n0 v0
    by_cases hlt : k < ts.length
    · obtain ⟨a', cap', c0, c1, c2, hf⟩ := HC.out k hlt
      obtain ⟨rfl, hnb'⟩ := HA.out (by omega)
      have hbn : b ≠ n := fun e => hnb' (by rw [e])
      have c0 := hgr.out.cell (a := ⟨b, off + k * 3, none⟩) c0 (fun e => hnb' e.symm)
      have c1 := hgr.out.cell (a := ⟨b, off + k * 3 + 1, none⟩) c1 (fun e => hnb' e.symm)
      have c2 := hgr.out.cell (a := ⟨b, off + k * 3 + 2, none⟩) c2 (fun e => hnb' e.symm)
      have HF := hidIt (FormAt.kept hf hgr.out)
      have hm : ts[k] ∈ ts := List.getElem_mem hlt
      have v0 := cell_of_one hwat.out.hv
      have hvlt := lt_of_block hwat.out.hv
      have hb1 := hfit.out.1
      have hb2 := hfit.out.2
      have hnext : Hid (fitsAt (c + 1 + nodesL (ts.take k)) (d + 1) ts[k] = true → fitL c d (ts.take (k + 1))) := fitL_step hlt hfit.out
      have hno : Hid (fitsAt (c + 1 + nodesL (ts.take k)) (d + 1) ts[k] = false → fitsAt c d (.node op name ts) = false) := fitL_no hlt
      have HS := hidIt (nodesL_take ts k hlt)
      clear hf
      generalize ts[k] = t at *
      go_wp2_with fail
      refine (IH.out t hm _ n vb (c + 1 + nodesL (ts.take k)) (d + 1) _ (HF.out.go ((Below.refl _ _).alloc (Nat.le_refl _) _)) (hwat.out.alloc _) (by omega) (by omega)).mono ?_
      rintro e w' ⟨rfl, hg, c', hw', hcc⟩
      have HG := hidIt (only_trans (only_alloc hgr.out _) hg)
      have HW' := hidIt hw'
      have HCC := hidIt hcc
      clear hg hw' hcc
      cases hpt : fitsAt (c + 1 + nodesL (ts.take k)) (d + 1) t
      · have HE := hidIt (hno.out hpt)
        clear hpt
        go_wp2_with fail
        go_ret
        exact ⟨ret_bool HE.out.symm, HG.out, c', HW'.out, fun h => by rw [HE.out] at h; cases h⟩
      · have HE := hidIt (hnext.out hpt)
        have HC' := hidIt (HCC.out hpt)
        clear hpt
        go_wp2_with fail
        go_roundw
        case rel => exact ⟨k + 1, by omega, by go_num, HE, (by show WAt _ _ _ _; rw [HS.out, ← Nat.add_assoc, ← HC'.out]; exact HW'.out), HG⟩
        case measure => simp [intOf]; omega
    · go_wp2
      go_ret
      have hfit' := hfit.out
      have hwat' := hwat.out
      rw [List.take_of_length_le (by omega)] at hfit' hwat'
      exact ⟨ret_bool (fitL_all hfit').symm, hgr.out, _, hwat', fun _ => by simp only [Tree.nodes]; omega⟩

theorem within1_zero (t : Tree) (v : Value) (n vb : Nat) (w : World) (hv : FormAt w (some n) v t) (hw : WAt w n vb 0) :
    Calls Tryd.prog 55 #[v, .int .i64 0, .pointer (some ⟨n, 0, none⟩), .pointer (some ⟨vb, 0, none⟩)] w fun e w' => e = .returned (.bool (fitsAt 0 0 t)) ∧ w.grownBy w' (some n) :=
  (within1_any t v n vb 0 0 w hv hw (by omega) (by omega)).mono fun _ _ h => ⟨h.1, h.2.1⟩

set_option maxRecDepth 100000 in
set_option maxHeartbeats 400000 in
theorem within_any (t : Tree) (v : Value) (w : World) (h : FormAt w none v t) :
    Calls Tryd.prog 33 #[v] w fun e w' => e = .returned (.bool (fitsAt 0 0 t)) ∧ Below w.heap.size w w' := by
  have H := hidIt h
  obtain ⟨a, cap, b, off, rfl, hop, hname, hlen, hcap, -, -⟩ := h.form
  have hmf : ∀ (fn : Fn) (first cap : Array Value) (w : World), (Instr.makeFunc fn first cap).run Tryd.prog w = .ok (.func fn first cap) w := fun _ _ _ _ => rfl
  clear h
  go_enter Tryd.func33, Tryd.ntmps33
  go_wp2_with fail
  refine (within1_zero t _ (w.heap.size + 1) (w.heap.size + 1 + 1) _ ((FormAt.kept (FormAt.avoid H.out (n := w.heap.size + 1) (by omega)) (only_alloc (only_alloc (only_alloc (only_refl _ _) _) _) _))) ⟨?_, ?_, by omega⟩).mono ?_
  · exact (Below.heap_alloc _ _ _ (by simp)).trans (heap_alloc_at (by simp))
  · exact heap_alloc_at (by simp)
  rintro e w' ⟨rfl, hg⟩
  have HG : Hid (Below w.heap.size w w') := by
    have h1 : w.grownBy w' (some (w.heap.size + 1)) := only_trans (only_alloc (only_alloc (only_alloc (only_refl _ _) _) _) _) hg
    exact ⟨h1.os, h1.tape, h1.output, h1.size, fun i hi => h1.block i hi (fun e => by injection e with e; omega)⟩
  clear hg
  go_wp2_with fail
  go_ret
  exact ⟨rfl, HG.out⟩

set_option maxHeartbeats 400000 in
theorem validate_any (t : Tree) (v : Value) (w : World) (h : FormAt w none v t) :
    Calls Tryd.prog 16 #[v] w fun e w' => e = .returned (.int .i64 (valE t)) ∧ Below w.heap.size w w' := by
  obtain ⟨a, cap, b, off, rfl, hop, hname, hlen, hcap, -, -⟩ := h.form
  have H := hidIt (h.go ((Below.refl _ _).alloc (Nat.le_refl _) (.cells #[.int .i64 t.op, .string t.name, .slice a t.args.length cap] 24)))
  clear h
  cases h1 : fitsAt 0 0 t
  · have HV : Hid (valE t = 2) := by show _ = _; simp [valE, h1]
    have H1 := hidIt h1
    clear h1
    go_enter Tryd.func16, Tryd.ntmps16
    go_wp2_with fail
    refine (within_any t _ _ H.out).mono ?_
    rintro e w' ⟨rfl, hb⟩
    rw [H1.out]
    have HB := hidIt (below_box hb)
    clear hb
    go_wp2_with fail
    go_ret
    exact ⟨ret_int HV.out.symm, HB.out⟩
  cases h2 : t.all kindB
  · have HV : Hid (valE t = 4) := by show _ = _; simp [valE, h1, h2]
    have H1 := hidIt h1
    have H2 := hidIt h2
    clear h1 h2
    go_enter Tryd.func16, Tryd.ntmps16
    go_wp2_with fail
    refine (within_any t _ _ H.out).mono ?_
    rintro e w' ⟨rfl, hb⟩
    rw [H1.out]
    have HB := hidIt (below_box hb)
    obtain ⟨p0, p1, p2⟩ := cell_of3 (laid_box hb)
    have hsz : w.heap.size < w'.heap.size := lt_of_block (laid_box hb)
    have HF := hidIt (H.out.go hb)
    clear hb
    go_wp2_with fail
    refine (every_any 35 kindB enters_kindFits kindFits_any t _ _ HF.out).mono ?_
    rintro e w2 ⟨rfl, hb2⟩
    rw [H2.out]
    have HB2 := hidIt (HB.out.trans (hb2.mono HB.out.size))
    clear hb2
    go_wp2_with fail
    go_ret
    exact ⟨ret_int HV.out.symm, HB2.out⟩
  · have HV : Hid (valE t = if t.all nameB then 0 else 3) := by show _ = _; simp [valE, h1, h2]
    have H1 := hidIt h1
    have H2 := hidIt h2
    clear h1 h2
    go_enter Tryd.func16, Tryd.ntmps16
    go_wp2_with fail
    refine (within_any t _ _ H.out).mono ?_
    rintro e w' ⟨rfl, hb⟩
    rw [H1.out]
    have HB := hidIt (below_box hb)
    have K1 := laid_box hb
    obtain ⟨p0, p1, p2⟩ := cell_of3 K1
    have hsz : w.heap.size < w'.heap.size := lt_of_block K1
    have HF := hidIt (H.out.go hb)
    have HK1 := hidIt K1
    clear hb K1
    go_wp2_with fail
    refine (every_any 35 kindB enters_kindFits kindFits_any t _ _ HF.out).mono ?_
    rintro e w2 ⟨rfl, hb2⟩
    rw [H2.out]
    have HB2 := hidIt (HB.out.trans (hb2.mono HB.out.size))
    have HF2 := hidIt (HF.out.go hb2)
    have K2 := blk_kept HK1.out hb2
    clear p0 p1 p2 hsz
    obtain ⟨p0, p1, p2⟩ := cell_of3 K2
    have hsz : w.heap.size < w2.heap.size := lt_of_block K2
    clear hb2 K2
    go_wp2_with fail
    refine (every_any 36 nameB enters_nameFits nameFits_any t _ _ HF2.out).mono ?_
    rintro e w3 ⟨rfl, hb3⟩
    have HB3 := hidIt (HB2.out.trans (hb3.mono HB2.out.size))
    clear hb3
    cases h3 : t.all nameB
    · have H3 := hidIt h3
      clear h3
      go_wp2_with fail
      go_ret
      exact ⟨ret_int (by rw [HV.out, H3.out]; rfl), HB3.out⟩
    · have H3 := hidIt h3
      clear h3
      go_wp2_with fail
      go_ret
      exact ⟨ret_int (by rw [HV.out, H3.out]; rfl), HB3.out⟩
end Go.Proofs.YtilkpjcbmllgmaaDoor

namespace Go.Proofs.YtilkpjcbmllgmaaDoor
set_option linter.unusedVariables false
set_option linter.unusedSimpArgs false
open Go.RowKit

def strengthI (t : Tree) : Int := if t.op = 8 then 1 else if t.op = 7 then 2 else if t.op = 6 then 3 else if t.op = 5 then 4 else 5

/-- In parentheses if the strength is less. -/
def partB (s : ByteArray) (n least : Int) : ByteArray := if n < least then ⟨#[40]⟩ ++ s ++ ⟨#[41]⟩ else s

/-- Texts with a sign between them. -/
def joinB (sign : ByteArray) : List ByteArray → ByteArray
  | [] => ⟨#[]⟩
  | s :: l => l.foldl (fun a b => a ++ sign ++ b) s

mutual
/-- The text of a formula. -/
def textB : Tree → ByteArray
  | .node op name ts =>
    if op = 1 then ⟨#[49]⟩ else if op = 2 then ⟨#[48]⟩
    else if op = 4 then ⟨#[126]⟩ ++ (textsB 5 ts).headD ⟨#[]⟩
    else if op = 5 then joinB ⟨#[32, 38, 32]⟩ (textsB 5 ts)
    else if op = 6 then joinB ⟨#[32, 124, 32]⟩ (textsB 4 ts)
    else if op = 7 then (textsB 3 ts).headD ⟨#[]⟩ ++ ⟨#[32, 45, 62, 32]⟩ ++ (textsB 2 ts).getD 1 ⟨#[]⟩
    else if op = 8 then joinB ⟨#[32, 60, 45, 62, 32]⟩ (textsB 2 ts)
    else name
def textsB (least : Int) : List Tree → List ByteArray
  | [] => []
  | t :: ts => partB (textB t) (strengthI t) least :: textsB least ts
end

theorem textsB_map (least : Int) : ∀ ts, textsB least ts = ts.map fun t => partB (textB t) (strengthI t) least
  | [] => rfl
  | t :: ts => by rw [textsB, textsB_map least ts]; rfl

def wellB (t : Tree) : Bool := kindB t && nameB t

theorem vn_size {s : ByteArray} (h : vn s = true) : s.size ≤ 12 := by
  simp only [vn, Bool.and_eq_true, decide_eq_true_eq] at h
  exact h.1.2
theorem nameB_size {t : Tree} (h : nameB t = true) : t.name.size ≤ 12 := by
  unfold nameB at h
  split at h
  · exact vn_size h
  · have := beq_iff_eq.1 h; omega
theorem size_nil : (⟨#[]⟩ : ByteArray).size = 0 := rfl
theorem size_lp : (⟨#[40]⟩ : ByteArray).size = 1 := rfl
theorem size_rp : (⟨#[41]⟩ : ByteArray).size = 1 := rfl

theorem size_append (a b : ByteArray) : (a ++ b).size = a.size + b.size := ByteArray.size_append
theorem partB_size (s : ByteArray) (n l : Int) : (partB s n l).size ≤ s.size + 2 := by
  unfold partB
  split
  · rw [size_append, size_append, size_lp, size_rp]; omega
  · omega
theorem joinB_size (sign : ByteArray) (l : List ByteArray) : (joinB sign l).size ≤ (l.map fun s => s.size + sign.size).sum := by
  cases l with
  | nil => simp only [joinB, size_nil]; omega
  | cons s l =>
    have key : ∀ (l : List ByteArray) (a : ByteArray), (l.foldl (fun a b => a ++ sign ++ b) a).size = a.size + (l.map fun s => s.size + sign.size).sum := by
      intro l
      induction l with
      | nil => simp
      | cons b l ih => intro a; rw [List.foldl_cons, ih]; simp only [size_append, List.map_cons, List.sum_cons]; omega
    simp only [joinB, key, List.map_cons, List.sum_cons]
    omega

theorem allL_mem {p : Tree → Bool} {l : List Tree} (h : allL p l = true) : ∀ t ∈ l, t.all p = true := by
  induction l with
  | nil => intro t ht; cases ht
  | cons a l ih =>
    simp only [allL, Bool.and_eq_true] at h
    intro t ht
    rcases List.mem_cons.1 ht with rfl | ht
    · exact h.1
    · exact ih h.2 t ht
theorem all_self {p : Tree → Bool} {op name ts} (h : (Tree.node op name ts).all p = true) : p (.node op name ts) = true ∧ allL p ts = true := by
  simpa [Tree.all] using h

/-- The texts of names are short. -/
theorem textB_size : ∀ t : Tree, t.all nameB = true → (textB t).size + 8 ≤ 20 * t.nodes := by
  refine Tree.ind fun op name ts ih h => ?_
  obtain ⟨h1, h2⟩ := all_self h
  have hn : name.size ≤ 12 := nameB_size h1
  have hsum : ∀ (k : Nat) (least : Int), k ≤ 5 → ((textsB least ts).map fun s => s.size + k).sum ≤ 20 * nodesL ts := by
    intro k least hk
    rw [textsB_map]
    have hm := allL_mem h2
    clear h h1 h2 hn
    induction ts with
    | nil => simp
    | cons t ts ih2 =>
      have h3 := ih t (by simp) (hm t (by simp))
      have h4 := ih2 (fun t ht => ih t (by simp [ht])) (fun t ht => hm t (by simp [ht]))
      have h5 := partB_size (textB t) (strengthI t) least
      simp only [List.map_cons, List.sum_cons, nodesL]
      omega
  have hhead : ∀ (least : Int) (i : Nat), ((textsB least ts).getD i ⟨#[]⟩).size ≤ 20 * nodesL ts := by
    intro least i
    have h0 := hsum 0 least (by omega)
    simp only [Nat.add_zero] at h0
    refine Nat.le_trans ?_ h0
    generalize textsB least ts = l
    induction l generalizing i with
    | nil => simp only [List.getD_nil, size_nil]; omega
    | cons s l ih3 =>
      cases i with
      | zero => simp
      | succ i => have := ih3 i; simp only [List.getD_cons_succ, List.map_cons, List.sum_cons]; omega
  have htwo : (((textsB 3 ts).getD 0 ⟨#[]⟩)).size + ((textsB 2 ts).getD 1 ⟨#[]⟩).size ≤ 20 * nodesL ts := by
    rw [textsB_map, textsB_map]
    have hm := allL_mem h2
    clear hsum hhead h h1 h2
    rcases ts with _ | ⟨t, _ | ⟨u, l⟩⟩
    · simp only [List.map_nil, List.getD_nil, size_nil]; omega
    · have h3 := ih t (by simp) (hm t (by simp))
      have h5 := partB_size (textB t) (strengthI t) 3
      simp only [nodesL, List.map_cons, List.map_nil, List.getD_cons_zero, List.getD_cons_succ, List.getD_nil, size_nil]
      omega
    · have h3 := ih t (by simp) (hm t (by simp))
      have h4 := ih u (by simp) (hm u (by simp))
      have h5 := partB_size (textB t) (strengthI t) 3
      have h6 := partB_size (textB u) (strengthI u) 2
      simp only [nodesL, List.map_cons, List.getD_cons_zero, List.getD_cons_succ]
      omega
  have hj : ∀ (sign : ByteArray) (least : Int), sign.size ≤ 5 → (joinB sign (textsB least ts)).size ≤ 20 * nodesL ts := fun sign least hs => Nat.le_trans (joinB_size _ _) (hsum _ _ hs)
  have hd := hhead 5 0
  rw [show ∀ l : List ByteArray, l.getD 0 ⟨#[]⟩ = l.headD ⟨#[]⟩ from fun l => by cases l <;> rfl] at hd
  rw [show ∀ l : List ByteArray, l.getD 0 ⟨#[]⟩ = l.headD ⟨#[]⟩ from fun l => by cases l <;> rfl] at htwo
  have j1 := hj ⟨#[32, 38, 32]⟩ 5 (by decide)
  have j2 := hj ⟨#[32, 124, 32]⟩ 4 (by decide)
  have j3 := hj ⟨#[32, 60, 45, 62, 32]⟩ 2 (by decide)
  have e1 : (⟨#[126]⟩ : ByteArray).size = 1 := rfl
  have e2 : (⟨#[32, 45, 62, 32]⟩ : ByteArray).size = 4 := rfl
  have e3 : (⟨#[49]⟩ : ByteArray).size = 1 := rfl
  have e4 : (⟨#[48]⟩ : ByteArray).size = 1 := rfl
  simp only [textB, Tree.nodes]
  repeat' split
  all_goals (try simp only [size_append])
  all_goals omega

theorem join_eq (sign : ByteArray) (l : List ByteArray) : (⟨(Lib.join (l.map (·.data.toList)) sign.data.toList).toArray⟩ : ByteArray) = joinB sign l := by
  have key : ∀ (l : List ByteArray) (s : ByteArray), (⟨(s.data.toList ++ Lib.joinTail sign.data.toList (l.map (·.data.toList))).toArray⟩ : ByteArray) = l.foldl (fun a b => a ++ sign ++ b) s := by
    intro l
    induction l with
    | nil => intro s; simp [Lib.joinTail]
    | cons b l ih =>
      intro s
      rw [List.foldl_cons, ← ih]
      congr 1
      simp [Lib.joinTail, ByteArray.data_append]
  cases l with
  | nil => rfl
  | cons s l => rw [List.map_cons, Lib.join_cons]; exact key l s

/-- text, at this formula. -/
def TextOk (t : Tree) : Prop := ∀ (v : Value) (w : World), FormAt w none v t → Calls Tryd.prog 31 #[v] w fun e w' => e = .returned (.string (textB t)) ∧ Below w.heap.size w w'

set_option maxHeartbeats 400000 in
theorem strength_any (t : Tree) (v : Value) (w : World) (h : FormAt w none v t) :
    Calls Tryd.prog 71 #[v] w fun e w' => e = .returned (.int .i64 (strengthI t)) ∧ Below w.heap.size w w' := by
  obtain ⟨a, cap, b, off, rfl, hop, hname, hlen, hcap, -, -⟩ := h.form
  have hK : Hid (strengthI t = if t.op = 8 then 1 else if t.op = 7 then 2 else if t.op = 6 then 3 else if t.op = 5 then 4 else 5) := rfl
  have hb : Hid (Below w.heap.size w (w.alloc (.cells #[.int .i64 t.op, .string t.name, .slice a t.args.length cap] 24))) := (Below.refl _ _).alloc (Nat.le_refl _) _
  generalize strengthI t = kb at *
  generalize t.args.length = n at *
  generalize t.op = op at *
  generalize t.name = nm at *
  clear h
  go_enter Tryd.func71, Tryd.ntmps71
  go_wp2
  all_goals (go_ret; refine ⟨ret_int ?_, hb.out⟩; rw [hK.out]; grind)

set_option maxHeartbeats 400000 in
theorem part_any (t : Tree) (ht : TextOk t) (hsz : (textB t).size ≤ 1000000) (v : Value) (least : Int) (hl : 0 ≤ least) (hl' : least ≤ 9) (w : World) (h : FormAt w none v t) :
    Calls Tryd.prog 51 #[v, .int .i64 least] w fun e w' => e = .returned (.string (partB (textB t) (strengthI t) least)) ∧ Below w.heap.size w w' := by
  obtain ⟨a, cap, b, off, rfl, hop, hname, hlen, hcap, -, -⟩ := h.form
  have H := hidIt (h.go ((Below.refl _ _).alloc (Nat.le_refl _) (.cells #[.int .i64 t.op, .string t.name, .slice a t.args.length cap] 24)))
  have HT := hidIt ht
  clear h ht
  by_cases hlt : strengthI t < least
  · have HE : Hid (partB (textB t) (strengthI t) least = ⟨#[40]⟩ ++ textB t ++ ⟨#[41]⟩) := by show _ = _; simp [partB, hlt]
    go_enter Tryd.func51, Tryd.ntmps51
    go_wp2_with fail
    refine (strength_any t _ _ H.out).mono ?_
    rintro e w' ⟨rfl, hb⟩
    have HB := hidIt (below_box hb)
    obtain ⟨p0, p1, p2⟩ := cell_of3 (laid_box hb)
    have hsz : w.heap.size < w'.heap.size := lt_of_block (laid_box hb)
    have HF := hidIt (H.out.go hb)
    clear hb
    go_wp2_with fail
    refine (HT.out _ _ HF.out).mono ?_
    rintro e w2 ⟨rfl, hb2⟩
    have HB2 := hidIt (HB.out.trans (hb2.mono HB.out.size))
    clear hb2
    go_wp2_with fail
    go_ret
    exact ⟨ret_str' HE.out.symm, HB2.out⟩
  · have HE : Hid (partB (textB t) (strengthI t) least = textB t) := by show _ = _; simp [partB, hlt]
    go_enter Tryd.func51, Tryd.ntmps51
    go_wp2_with fail
    refine (strength_any t _ _ H.out).mono ?_
    rintro e w' ⟨rfl, hb⟩
    have HB := hidIt (below_box hb)
    obtain ⟨p0, p1, p2⟩ := cell_of3 (laid_box hb)
    have hsz : w.heap.size < w'.heap.size := lt_of_block (laid_box hb)
    have HF := hidIt (H.out.go hb)
    clear hb
    go_wp2_with fail
    refine (HT.out _ _ HF.out).mono ?_
    rintro e w2 ⟨rfl, hb2⟩
    have HB2 := hidIt (HB.out.trans (hb2.mono HB.out.size))
    clear hb2
    go_wp2_with fail
    go_ret
    exact ⟨ret_str' HE.out.symm, HB2.out⟩

theorem sum_map_le {α : Type} (l : List α) (f : α → Nat) (B : Nat) (h : ∀ x ∈ l, f x ≤ B) : (l.map f).sum ≤ l.length * B := by
  induction l with
  | nil => simp
  | cons x l ih =>
    have h1 := h x (by simp)
    have h2 := ih fun y hy => h y (by simp [hy])
    simp only [List.map_cons, List.sum_cons, List.length_cons, Nat.add_mul]
    omega

theorem take_set_snoc {α : Type} (l m : List α) (k : Nat) (x : α) (hk : k < l.length) (hm : k < m.length) (hx : x = m[k]) (h : l.take k = m.take k) : (l.set k x).take (k + 1) = m.take (k + 1) := by
  rw [take_snoc' m k hm, take_snoc' _ k (by rw [List.length_set]; exact hk), List.take_set_of_le (Nat.le_refl _), h, List.getElem_set_self, hx]

set_option maxRecDepth 100000 in
set_option maxHeartbeats 1000000 in
theorem joined_any (sign : ByteArray) (hs : sign.size ≤ 5) (least : Int) (hl : 0 ≤ least) (hl' : least ≤ 9) (ts : List Tree) (ht : ∀ t ∈ ts, TextOk t) (hsz : ∀ t ∈ ts, (textB t).size ≤ 1000000) (hn : ts.length ≤ 600) (a : Option Addr) (cap : Nat) (w : World) (h : FormsAt w none a ts) :
    Calls Tryd.prog 52 #[.slice a ts.length cap, .string sign, .int .i64 least] w fun e w' => e = .returned (.string (joinB sign (textsB least ts))) ∧ Below w.heap.size w w' := by
  have HF := hidIt h
  have HT := hidIt ht
  have HS := hidIt hsz
  have hmk := fun w => make_strs' ts.length (by omega) w
  obtain ⟨parts, hparts⟩ : ∃ p, p = textsB least ts := ⟨_, rfl⟩
  have hpl : parts.length = ts.length := by rw [hparts, textsB_map, List.length_map]
  have hpk : Hid (∀ k (h1 : k < parts.length) (h2 : k < ts.length), parts[k] = partB (textB ts[k]) (strengthI ts[k]) least) := by
    intro k h1 h2
    subst hparts
    simp only [textsB_map, List.getElem_map]
  have hps : Hid ((Lib.join (parts.map (·.data.toList)) sign.data.toList).length ≤ 140737488355328) := by
    have e : (Lib.join (parts.map (·.data.toList)) sign.data.toList).length = (joinB sign parts).size := by
      rw [← join_eq]
      simp [ByteArray.size]
    have h1 := joinB_size sign parts
    have h2 := sum_map_le parts (fun s => s.size + sign.size) 1000010 (fun s hs' => by
      obtain ⟨k, hk, rfl⟩ := List.mem_iff_getElem.1 hs'
      have hk2 : k < ts.length := by omega
      have e2 := hpk.out k hk hk2
      have h3 := partB_size (textB ts[k]) (strengthI ts[k]) least
      have h4 := hsz _ (List.getElem_mem hk2)
      show parts[k].size + sign.size ≤ _
      rw [e2]
      omega)
    show _ ≤ _
    rw [e]
    have h5 : parts.length * 1000010 ≤ 600 * 1000010 := Nat.mul_le_mul_right _ (by omega)
    omega
  rw [← hparts]
  clear h ht hsz hparts
  go_enter Tryd.func52, Tryd.ntmps52
  go_wp2_with fail
  go_loopw [15] (fun i wr => ∃ (k : Nat) (l : List ByteArray), k ≤ ts.length ∧ i = .int .i64 k ∧ Hid (l.length = ts.length) ∧ Hid (l.take k = parts.take k) ∧ Hid (StrRow wr w.heap.size l) ∧ Hid (Below w.heap.size w wr)) (fun i _ => ts.length - (intOf i).toNat)
  case atStart => exact ⟨0, List.replicate ts.length ⟨#[]⟩, Nat.zero_le _, rfl, by show _ = _; simp, by show _ = _; simp, StrRow.made w _, (Below.refl _ _).alloc (Nat.le_refl _) _⟩
  case round =>
    clear hmk
    obtain ⟨k, l, hk, rfl, hll, hlk, hrow, hbel⟩ := hrel
    by_cases hlt : k < ts.length
    · obtain ⟨b, off, a', c', rfl, c0, c1, c2, hf⟩ := (HF.out.go hbel.out).at k hlt
      have HF1 := hidIt hf
      have hm : ts[k] ∈ ts := List.getElem_mem hlt
      have htk := hidIt (HT.out _ hm)
      have hsk := HS.out _ hm
      have hx := hidIt (hpk.out k (by omega) hlt)
      clear hf
      generalize ts[k] = t at *
      go_wp2_with fail
      refine (part_any t htk.out hsk _ least hl hl' _ (HF1.out.go ((Below.refl _ _).alloc (Nat.le_refl _) _))).mono ?_
      rintro e w' ⟨rfl, hb⟩
      have hrow' := hrow.out.kept (below_box hb)
      have HR := hidIt hrow'
      have s0 := hrow'.cell k (by rw [hll.out]; exact hlt)
      have f0 := hrow'.free k
      have hsz := hrow'.lt
      have HB := hidIt (hbel.out.trans ((below_box hb).mono hbel.out.size))
      clear hb hrow'
      go_wp2_with fail
      go_roundw
      case rel =>
        exact ⟨k + 1, l.set k (partB (textB t) (strengthI t) least), by omega, by go_num, by show _ = _; rw [List.length_set]; exact hll.out,
          take_set_snoc l parts k _ (by rw [hll.out]; exact hlt) (by omega) hx.out.symm hlk.out, HR.out.set k _, HB.out.setCell (Nat.le_refl _) _⟩
      case measure => simp [intOf]; omega
    · have hkn : k = ts.length := by omega
      have hlp : Hid (l = parts) := by
        have := hlk.out
        rwa [List.take_of_length_le (by rw [hll.out]; omega), List.take_of_length_le (by omega)] at this
      have hrow' := hrow.out
      rw [hlp.out] at hrow'
      have HJ := hidIt (Tryd.strings_Join w.heap.size 0 ts.length parts sign wr (fun j x hj => by
        obtain ⟨hj1, hj2⟩ := List.getElem?_eq_some_iff.1 hj
        rw [Nat.zero_add, ← hj2]
        exact hrow'.cell j hj1) hrow'.lt (by omega) (by omega) hps.out)
      rw [hpl] at HJ
      clear hrow' hkn
      go_wp2_with fail
      refine HJ.out.mono ?_
      rintro e w2 ⟨rfl, hb2⟩
      have HB2 := hidIt (hbel.out.trans (hb2.mono hbel.out.size))
      clear hb2
      go_wp2
      go_ret
      exact ⟨ret_str' (join_eq sign parts), HB2.out⟩

theorem len_two {α : Type} {l : List α} (h : l.length = 2) : ∃ t u, l = [t, u] := by
  match l, h with
  | [t, u], _ => exact ⟨t, u, rfl⟩

theorem kindB_args {t : Tree} (h : kindB t = true) : (t.op = 4 → t.args.length = 1) ∧ (t.op = 5 ∨ t.op = 6 → 2 ≤ t.args.length ∧ t.args.length ≤ 6) ∧ (t.op = 7 ∨ t.op = 8 → t.args.length = 2) := by
  unfold kindB at h
  refine ⟨fun e => ?_, fun e => ?_, fun e => ?_⟩ <;> grind

theorem wellB_split {p q : Tree → Bool} : ∀ t : Tree, t.all (fun t => p t && q t) = (t.all p && t.all q) := by
  refine Tree.ind fun op name ts ih => ?_
  have key : allL (fun t => p t && q t) ts = (allL p ts && allL q ts) := by
    induction ts with
    | nil => rfl
    | cons t ts ih2 =>
      simp only [allL, ih t (by simp), ih2 fun t ht => ih t (by simp [ht])]
      generalize t.all p = x1; generalize t.all q = x2; generalize allL p ts = x3; generalize allL q ts = x4
      cases x1 <;> cases x2 <;> cases x3 <;> cases x4 <;> rfl
  simp only [Tree.all, key]
  generalize p (.node op name ts) = x1; generalize q (.node op name ts) = x2; generalize allL p ts = x3; generalize allL q ts = x4
  cases x1 <;> cases x2 <;> cases x3 <;> cases x4 <;> rfl

set_option maxRecDepth 100000 in
set_option maxHeartbeats 1000000 in
theorem text_any : ∀ t : Tree, t.all kindB = true → t.all nameB = true → t.nodes ≤ 600 → TextOk t := by
  refine Tree.ind fun op name ts ih hk hnm hn v w hv => ?_
  obtain ⟨k1, k2⟩ := all_self hk
  obtain ⟨n1, n2⟩ := all_self hnm
  have hargs := kindB_args k1
  have hnn : 1 + nodesL ts ≤ 600 := by simpa [Tree.nodes] using hn
  have hlen := nodes_len_le ts
  have IH : ∀ t ∈ ts, TextOk t := fun t ht => ih t ht (allL_mem k2 t ht) (allL_mem n2 t ht) (by have := nodes_mem_le ht; omega)
  have HSZ : ∀ t ∈ ts, (textB t).size ≤ 1000000 := fun t ht => by have := textB_size t (allL_mem n2 t ht); have := nodes_mem_le ht; omega
  obtain ⟨a, cap, b, off, rfl, hop, hname, hlen', hcap, -, -⟩ := hv.form
  have HFS := hidIt hv.forms
  simp only [Tree.op_node, Tree.name_node, Tree.args_node] at *
  have hop8 : op = 1 ∨ op = 2 ∨ op = 3 ∨ op = 4 ∨ op = 5 ∨ op = 6 ∨ op = 7 ∨ op = 8 := by
    unfold kindB at k1
    simp only [Tree.op_node] at k1
    grind
  clear ih hk hnm k1 k2 n1 n2 hv hn hop
  obtain ⟨h4, h5, h7⟩ := hargs
  have IHH := hidIt IH
  have HSZH := hidIt HSZ
  clear IH HSZ
  rcases hop8 with rfl | rfl | rfl | rfl | rfl | rfl | rfl | rfl
  · have HE : Hid (textB (.node 1 name ts) = ⟨#[49]⟩) := by show _ = _; simp [textB]
    clear h4 h5 h7
    go_enter Tryd.func31, Tryd.ntmps31
    go_wp2_with fail
    go_ret
    exact ⟨ret_str' HE.out.symm, (Below.refl _ _).alloc (Nat.le_refl _) _⟩
  · have HE : Hid (textB (.node 2 name ts) = ⟨#[48]⟩) := by show _ = _; simp [textB]
    clear h4 h5 h7
    go_enter Tryd.func31, Tryd.ntmps31
    go_wp2_with fail
    go_ret
    exact ⟨ret_str' HE.out.symm, (Below.refl _ _).alloc (Nat.le_refl _) _⟩
  · have HE : Hid (textB (.node 3 name ts) = name) := by show _ = _; simp [textB]
    clear h4 h5 h7
    go_enter Tryd.func31, Tryd.ntmps31
    go_wp2_with fail
    go_ret
    exact ⟨ret_str' HE.out.symm, (Below.refl _ _).alloc (Nat.le_refl _) _⟩
  · obtain ⟨t, rfl⟩ : ∃ t, ts = [t] := List.length_eq_one_iff.1 (h4 rfl)
    have HE : Hid (textB (.node 4 name [t]) = ⟨#[126]⟩ ++ partB (textB t) (strengthI t) 5) := by show _ = _; simp [textB, textsB]
    have ht := hidIt (IHH.out t (by simp))
    have hts := HSZH.out t (by simp)
    have hps := partB_size (textB t) (strengthI t) 5
    obtain ⟨b', off', a', c', rfl, c0, c1, c2, hf⟩ := HFS.out.at 0 (by simp)
    simp only [List.getElem_cons_zero] at c0 c1 c2 hf
    have HF := hidIt hf
    have hbl := World.block_lt_of_cell? w ⟨b', off' + 0 * 3, none⟩ c0
    simp only [Nat.zero_mul, Nat.add_zero, List.length_singleton] at c0 c1 c2 hbl hlen'
    have h01 : ([t] : List Tree).length = 1 := rfl
    rw [h01]
    clear hf h4 h5 h7
    go_enter Tryd.func31, Tryd.ntmps31
    go_wp2_with fail
    refine (part_any t ht.out hts _ 5 (by omega) (by omega) _ (HF.out.go ((Below.refl _ _).alloc (Nat.le_refl _) _))).mono ?_
    rintro e w' ⟨rfl, hb⟩
    have HB := hidIt (below_box hb)
    clear hb
    go_wp2_with fail
    go_ret
    exact ⟨ret_str' HE.out.symm, HB.out⟩
  · have HE : Hid (textB (.node 5 name ts) = joinB ⟨#[32, 38, 32]⟩ (textsB 5 ts)) := by show _ = _; simp [textB]
    clear h4 h5 h7
    go_enter Tryd.func31, Tryd.ntmps31
    go_wp2_with fail
    refine (joined_any ⟨#[32, 38, 32]⟩ (by decide) 5 (by omega) (by omega) ts IHH.out HSZH.out (by omega) a cap _ (HFS.out.go ((Below.refl _ _).alloc (Nat.le_refl _) _))).mono ?_
    rintro e w' ⟨rfl, hb⟩
    have HB := hidIt (below_box hb)
    clear hb
    go_wp2_with fail
    go_ret
    exact ⟨ret_str' HE.out.symm, HB.out⟩
  · have HE : Hid (textB (.node 6 name ts) = joinB ⟨#[32, 124, 32]⟩ (textsB 4 ts)) := by show _ = _; simp [textB]
    clear h4 h5 h7
    go_enter Tryd.func31, Tryd.ntmps31
    go_wp2_with fail
    refine (joined_any ⟨#[32, 124, 32]⟩ (by decide) 4 (by omega) (by omega) ts IHH.out HSZH.out (by omega) a cap _ (HFS.out.go ((Below.refl _ _).alloc (Nat.le_refl _) _))).mono ?_
    rintro e w' ⟨rfl, hb⟩
    have HB := hidIt (below_box hb)
    clear hb
    go_wp2_with fail
    go_ret
    exact ⟨ret_str' HE.out.symm, HB.out⟩
  · obtain ⟨t, u, rfl⟩ : ∃ t u, ts = [t, u] := len_two (h7 (.inl rfl))
    have HE : Hid (textB (.node 7 name [t, u]) = partB (textB t) (strengthI t) 3 ++ ⟨#[32, 45, 62, 32]⟩ ++ partB (textB u) (strengthI u) 2) := by show _ = _; simp [textB, textsB]
    have ht := hidIt (IHH.out t (by simp))
    have hts := HSZH.out t (by simp)
    have hps := partB_size (textB t) (strengthI t) 3
    have hu := hidIt (IHH.out u (by simp))
    have hus := HSZH.out u (by simp)
    have hpu := partB_size (textB u) (strengthI u) 2
    obtain ⟨b', off', a', c', rfl, c0, c1, c2, hf⟩ := HFS.out.at 0 (by simp)
    obtain ⟨b2, off2, a2, c2', e2, d0, d1, d2, hf2⟩ := HFS.out.at 1 (by simp)
    obtain ⟨rfl, rfl⟩ : b2 = b' ∧ off2 = off' := by
      injection e2 with e2
      injection e2 with e3 e4
      exact ⟨e3.symm, e4.symm⟩
    simp only [List.getElem_cons_zero, List.getElem_cons_succ] at c0 c1 c2 hf d0 d1 d2 hf2
    simp only [Nat.zero_mul, Nat.add_zero, Nat.one_mul] at c0 c1 c2 d0 d1 d2
    simp only [List.length_cons, List.length_nil] at hlen'
    have h01 : ([t, u] : List Tree).length = 2 := rfl
    rw [h01]
    have HBX : Hid (Below w.heap.size w (w.alloc (.cells #[.int .i64 7, .string name, .slice (some ⟨b2, off2, none⟩) 2 cap] 24))) := (Below.refl _ _).alloc (Nat.le_refl _) _
    have hbl := World.block_lt_of_cell? w ⟨b2, off2, none⟩ c0
    have k2 : (w.alloc (.cells #[.int .i64 7, .string name, .slice (some ⟨b2, off2, none⟩) 2 cap] 24)).cell? ⟨w.heap.size, 2, none⟩ = some (.slice (some ⟨b2, off2, none⟩) 2 cap) := (cell_of3 (heap_alloc_new w _)).2.2
    rw [← HBX.out.cell (p := ⟨b2, off2, none⟩) hbl] at c0
    rw [← HBX.out.cell (p := ⟨b2, off2 + 1, none⟩) hbl] at c1
    rw [← HBX.out.cell (p := ⟨b2, off2 + 2, none⟩) hbl] at c2
    rw [← HBX.out.cell (p := ⟨b2, off2 + 3, none⟩) hbl] at d0
    rw [← HBX.out.cell (p := ⟨b2, off2 + 3 + 1, none⟩) hbl] at d1
    rw [← HBX.out.cell (p := ⟨b2, off2 + 3 + 2, none⟩) hbl] at d2
    have HF := hidIt (hf.go HBX.out)
    have HF2 := hidIt (hf2.go HBX.out)
    have K0 := fun y => Ext.cell c0 y
    have K1 := fun y => Ext.cell c1 y
    have K2 := fun y => Ext.cell c2 y
    have L0 := fun y => Ext.cell d0 y
    have L1 := fun y => Ext.cell d1 y
    have L2 := fun y => Ext.cell d2 y
    have M2 := fun y => Ext.cell k2 y
    clear hf hf2 h4 h5 h7 c0 c1 c2 d0 d1 d2 k2 e2
    go_enter Tryd.func31, Tryd.ntmps31
    go_wp2_with fail
    generalize (w.alloc (.cells #[.int .i64 7, .string name, .slice (some ⟨b2, off2, none⟩) 2 cap] 24)) = W at *
    haveI := Ext.nonempty W
    refine wp_region_in (Ext W) (by kernel_rfl) (by kernel_rfl) (Ext.start W) ?_
    repeat (go_big_quiet_step (first
      | (with_reducible (refine Ext.call (part_any t ht.out hts _ 3 (by omega) (by omega) _ (FormAt.go HF.out (In.h _)))))
      | (with_reducible (refine Ext.call (part_any u hu.out hus _ 2 (by omega) (by omega) _ (FormAt.go HF2.out (In.h _)))))))
    refine wpQuiet_nil ?_
    rintro w5 ⟨⟨_, h5⟩, rfl⟩
    have HB5 : Hid (Below w.heap.size w w5) := HBX.out.trans (Below.mono h5 HBX.out.size)
    clear h5 K0 K1 K2 L0 L1 L2 M2
    go_wp2_with fail
    go_ret
    exact ⟨ret_str' HE.out.symm, HB5.out⟩
  · have HE : Hid (textB (.node 8 name ts) = joinB ⟨#[32, 60, 45, 62, 32]⟩ (textsB 2 ts)) := by show _ = _; simp [textB]
    clear h4 h5 h7
    go_enter Tryd.func31, Tryd.ntmps31
    go_wp2_with fail
    refine (joined_any ⟨#[32, 60, 45, 62, 32]⟩ (by decide) 2 (by omega) (by omega) ts IHH.out HSZH.out (by omega) a cap _ (HFS.out.go ((Below.refl _ _).alloc (Nat.le_refl _) _))).mono ?_
    rintro e w' ⟨rfl, hb⟩
    have HB := hidIt (below_box hb)
    clear hb
    go_wp2_with fail
    go_ret
    exact ⟨ret_str' HE.out.symm, HB.out⟩
end Go.Proofs.YtilkpjcbmllgmaaDoor

namespace Go.Proofs.YtilkpjcbmllgmaaDoor
set_option linter.unusedVariables false
set_option linter.unusedSimpArgs false
open Go.RowKit Go.Maps Go.WideMaps

theorem strKeyed : Keyed Tryd.prog 9 := Keyed.of_law (string_law Tryd.underlying9)
theorem key_str (s : ByteArray) (h : s.size ≤ maxLen) : keyOf Tryd.prog 9 (.string s) = some (.string s.data.toList) := keyOf_string_mk Tryd.underlying9 h

/-- Is a string in a list? -/
def inB (l : List ByteArray) (s : ByteArray) : Bool := l.any fun x => x.data.toList == s.data.toList

/-- The map in which these strings are true. -/
def setD (l : List ByteArray) : DataW Unit := l.foldl (fun D s => D.put (.string s.data.toList) (.lit (.bool true))) (.map [])
theorem setD_snoc (l : List ByteArray) (s : ByteArray) : setD (l ++ [s]) = (setD l).put (.string s.data.toList) (.lit (.bool true)) := by simp [setD]
theorem setD_isMap (l : List ByteArray) : IsMap (setD l) := by
  have : ∀ (l : List ByteArray) (D : DataW Unit), IsMap D → IsMap (l.foldl (fun D s => D.put (.string s.data.toList) (.lit (.bool true))) D) := by
    intro l
    induction l with
    | nil => exact fun D h => h
    | cons x r ih => exact fun D h => ih _ (h.put _ _)
  exact this l _ isMap_empty

theorem bytes_inj {a b : ByteArray} (h : a.data.toList = b.data.toList) : a = b := by
  obtain ⟨⟨a⟩⟩ := a
  obtain ⟨⟨b⟩⟩ := b
  simp only at h
  rw [h]

theorem setD_at (y : ByteArray) (n : Nat) : ∀ l : List ByteArray, l.length = n → (setD l).atKey (.string y.data.toList) (.lit (.bool false)) = .lit (.bool (inB l y)) := by
  induction n with
  | zero =>
    intro l hl
    obtain rfl := List.eq_nil_of_length_eq_zero hl
    rfl
  | succ n ih =>
    intro l hl
    obtain ⟨r, x, rfl⟩ : ∃ r x, l = r ++ [x] := by
      rcases List.eq_nil_or_concat l with h | ⟨r, x, h⟩
      · subst h; simp at hl
      · exact ⟨r, x, by simpa using h⟩
    have hr : r.length = n := by simpa using hl
    rw [setD_snoc]
    by_cases e : y = x
    · subst e
      rw [atKey_put_same (setD_isMap r) (by trivial)]
      simp [inB]
    · rw [atKey_put_other (fun h => e (bytes_inj (by simpa using h))), ih r hr]
      have e' : (x.data.toList == y.data.toList) = false := by rw [beq_eq_false_iff_ne]; exact fun h => e (bytes_inj h.symm)
      simp only [inB, List.any_append, List.any_cons, List.any_nil, e', Bool.or_false]

/-- Block b is a map in which just these strings are true. -/
def SetAt (w : World) (b : Nat) (l : List ByteArray) : Prop := ∃ n, n ≤ l.length ∧ w.ownsMap Tryd.prog 9 (plainElem Tryd.prog 4) b n (setD l)

theorem SetAt.kept {w w' : World} {b : Nat} {l : List ByteArray} {row : Option Nat} (h : SetAt w b l) (hg : w.grownBy w' row) (hr : row ≠ some b) : SetAt w' b l := by
  obtain ⟨n, hn, ho⟩ := h
  exact ⟨n, hn, ho.kept hg (fun e => hr e.symm)⟩
theorem SetAt.go {w w' : World} {b : Nat} {l : List ByteArray} (h : SetAt w b l) (hb : Below w.heap.size w w') : SetAt w' b l := h.kept (only_of_below hb none) (by simp)

set_option maxRecDepth 10000 in
theorem SetAt.lookup {w : World} {b : Nat} {l : List ByteArray} (h : SetAt w b l) (s : ByteArray) (hs : s.size ≤ maxLen) :
    (Instr.lookup 68 (.map (some b)) (.string s) false).run Tryd.prog w = .ok (.bool (inB l s)) w := by
  obtain ⟨n, hn, ho⟩ := h
  have hz : (zeroValue 4).run Tryd.prog w = .ok (.bool false) w := by kernel_rfl
  obtain ⟨v, ps, hrun, hv⟩ := ho.lookup strKeyed Tryd.underlying68 hz (plainElem_bool Tryd.underlying4 false) (key_str s hs)
  unfold plainElem at hv
  rw [Tryd.underlying4] at hv
  cases v <;> simp at hv
  rename_i c
  have h2 := hv.1
  rw [setD_at s _ l rfl] at h2
  have h3 : inB l s = c := by simpa using h2.symm
  rw [h3]
  exact hrun

theorem SetAt.made (w : World) : SetAt (w.alloc (.map #[] 0)) w.heap.size [] := ⟨0, Nat.le_refl _, World.ownsMap_made w _ _ _⟩
theorem SetAt.put {w : World} {b : Nat} {l : List ByteArray} (h : SetAt w b l) (s : ByteArray) (hs : s.size ≤ maxLen) (hl : l.length ≤ 1000000000) :
    ∃ w', (Instr.mapUpdate 68 (.map (some b)) (.string s) (.bool true)).run Tryd.prog w = .ok () w' ∧ SetAt w' b (l ++ [s]) ∧ w.grownBy w' (some b) := by
  obtain ⟨n, hn, ho⟩ := h
  obtain ⟨w3, hrun, hown, hg⟩ := ho.update strKeyed Tryd.underlying68 (by unfold maxLen; omega) (key_str s hs) (plainElem_bool Tryd.underlying4 true)
  refine ⟨w3, hrun, ⟨n + 1, by simp; omega, ?_⟩, hg⟩
  rw [setD_snoc]
  exact hown

/-- A row of strings. -/
def StrsIn (w : World) (S : Nat → Prop) (a : Option Addr) (l : List ByteArray) : Prop := ∃ b off : Nat, (0 < l.length → a = some ⟨b, off, none⟩ ∧ S b) ∧
  ∀ i (h : i < l.length), w.cell? ⟨b, off + i, none⟩ = some (.string l[i]) ∧ l[i].size ≤ maxLen
theorem StrsIn.kept {w w' : World} {S : Nat → Prop} {a : Option Addr} {l : List ByteArray} (h : StrsIn w S a l) (hg : ∀ i, S i → i < w.heap.size → w'.heap[i]? = w.heap[i]?) : StrsIn w' S a l := by
  obtain ⟨b, off, ha, hc⟩ := h
  refine ⟨b, off, ha, fun i hi => ⟨?_, (hc i hi).2⟩⟩
  exact (World.cell?_of_block (a := ⟨b, off + i, none⟩) (hg b (ha (by omega)).2 (World.block_lt_of_cell? w ⟨b, off + i, none⟩ (hc i hi).1))).trans (hc i hi).1
theorem StrsIn.go {w w' : World} {S : Nat → Prop} {a : Option Addr} {l : List ByteArray} (h : StrsIn w S a l) (hb : Below w.heap.size w w') : StrsIn w' S a l := h.kept fun i _ hi => hb.block i hi
theorem StrsIn.mono {w : World} {S S' : Nat → Prop} {a : Option Addr} {l : List ByteArray} (h : StrsIn w S a l) (hS : ∀ i, i < w.heap.size → S i → S' i) : StrsIn w S' a l := by
  obtain ⟨b, off, ha, hc⟩ := h
  exact ⟨b, off, fun h => ⟨(ha h).1, hS b (World.block_lt_of_cell? w ⟨b, off + 0, none⟩ (hc 0 h).1) (ha h).2⟩, hc⟩
theorem StrsIn.at {w : World} {S : Nat → Prop} {a : Option Addr} {l : List ByteArray} (h : StrsIn w S a l) (i : Nat) (hi : i < l.length) : ∃ b off : Nat, a = some ⟨b, off, none⟩ ∧ w.cell? ⟨b, off + i, none⟩ = some (.string l[i]) ∧ l[i].size ≤ maxLen := by
  obtain ⟨b, off, ha, hc⟩ := h
  exact ⟨b, off, (ha (by omega)).1, hc i hi⟩
theorem StrsIn.nil {w : World} {S : Nat → Prop} (a : Option Addr) : StrsIn w S a [] := ⟨0, 0, fun h => by simp at h, fun i h => by simp at h⟩
end Go.Proofs.YtilkpjcbmllgmaaDoor

namespace Go.Proofs.YtilkpjcbmllgmaaDoor
set_option linter.unusedVariables false
set_option linter.unusedSimpArgs false
open Go.RowKit

/-- The name of one letter. -/
def letter (m : Nat) : ByteArray := ⟨#[UInt8.ofNat (97 + m)]⟩

/-- A node as the builder of package keep makes it, over n atoms. -/
def nodeG (n : Nat) (t : Tree) : Bool := kindB t && nameB t && decide (t.args.length ≤ 3) && (t.op != 3 || (List.range n).any fun m => t.name.data.toList == (letter m).data.toList)

theorem all_imp {p q : Tree → Bool} (h : ∀ t, p t = true → q t = true) : ∀ t : Tree, t.all p = true → t.all q = true := by
  refine Tree.ind fun op name ts ih ha => ?_
  obtain ⟨h1, h2⟩ := all_self ha
  have h3 : allL q ts = true := by
    have key : ∀ l : List Tree, (∀ t ∈ l, t.all q = true) → allL q l = true := by
      intro l
      induction l with
      | nil => exact fun _ => rfl
      | cons t l ih2 => intro hl; simp only [allL, hl t (by simp), ih2 fun t ht => hl t (by simp [ht]), Bool.and_self]
    exact key ts fun t ht => ih t ht (allL_mem h2 t ht)
  simp only [Tree.all, h _ h1, h3, Bool.and_self]

theorem nodeG_kind {n : Nat} {t : Tree} (h : nodeG n t = true) : kindB t = true := by simp only [nodeG, Bool.and_eq_true] at h; exact h.1.1.1
theorem nodeG_name {n : Nat} {t : Tree} (h : nodeG n t = true) : nameB t = true := by simp only [nodeG, Bool.and_eq_true] at h; exact h.1.1.2
theorem nodeG_args {n : Nat} {t : Tree} (h : nodeG n t = true) : t.args.length ≤ 3 := by simp only [nodeG, Bool.and_eq_true, decide_eq_true_eq] at h; exact h.1.2
theorem nodeG_atom {n : Nat} {t : Tree} (h : nodeG n t = true) (ho : t.op = 3) : ∃ m, m < n ∧ t.name = letter m := by
  simp only [nodeG, Bool.and_eq_true, Bool.or_eq_true, bne_iff_ne, ne_eq, List.any_eq_true, List.mem_range] at h
  rcases h.2 with h | ⟨m, hm, he⟩
  · exact absurd ho h
  · exact ⟨m, hm, bytes_inj (eq_of_beq he)⟩

/-- How many nodes a formula of a depth has at most. -/
def maxNodes : Nat → Nat
  | 0 => 1
  | d + 1 => 1 + 3 * maxNodes d
theorem maxNodes_le {a b : Nat} (h : a ≤ b) : maxNodes a ≤ maxNodes b := by
  induction b with
  | zero => obtain rfl : a = 0 := by omega
            exact Nat.le_refl _
  | succ b ih =>
    by_cases e : a = b + 1
    · subst e; exact Nat.le_refl _
    · have := ih (by omega)
      simp only [maxNodes]
      omega

theorem nodesL_bound : ∀ (ts : List Tree) (d : Nat), (∀ t ∈ ts, t.nodes ≤ d) → nodesL ts ≤ ts.length * d
  | [], d, _ => by simp [nodesL]
  | t :: ts, d, h => by
    have h1 := h t (by simp)
    have h2 := nodesL_bound ts d fun t ht => h t (by simp [ht])
    simp only [nodesL, List.length_cons, Nat.add_mul]
    omega

theorem depthL_mem : ∀ {ts : List Tree} {t : Tree}, t ∈ ts → 1 + t.depth ≤ depthL ts
  | s :: ts, t, h => by
    simp only [depthL]
    rcases List.mem_cons.1 h with rfl | h
    · omega
    · have := depthL_mem h
      omega

theorem gen_nodes {n : Nat} : ∀ (t : Tree) (d : Nat), t.all (nodeG n) = true → t.depth ≤ d → t.nodes ≤ maxNodes d := by
  refine Tree.ind fun op name ts ih d ha hd => ?_
  obtain ⟨h1, h2⟩ := all_self ha
  have h3 : ts.length ≤ 3 := nodeG_args h1
  simp only [Tree.depth] at hd
  simp only [Tree.nodes]
  cases d with
  | zero =>
    cases ts with
    | nil => simp [nodesL, maxNodes]
    | cons t ts => simp only [depthL] at hd; omega
  | succ d =>
    have h4 := nodesL_bound ts (maxNodes d) fun t ht => ih t ht d (allL_mem h2 t ht) (by have := depthL_mem ht; omega)
    have h5 : ts.length * maxNodes d ≤ 3 * maxNodes d := Nat.mul_le_mul_right _ h3
    simp only [maxNodes]
    omega

theorem letter_name (m : Nat) (h : m < 26) : vn (letter m) = true := by
  have : ∀ m, m < 26 → vn (letter m) = true := by decide
  exact this m h
theorem letter_size (m : Nat) : (letter m).size = 1 := rfl
theorem letter_inj {a b : Nat} (ha : a < 26) (hb : b < 26) (h : letter a = letter b) : a = b := by
  have h1 : UInt8.ofNat (97 + a) = UInt8.ofNat (97 + b) := by
    unfold letter at h
    simpa using h
  have h2 := congrArg UInt8.toNat h1
  simp only [UInt8.toNat_ofNat'] at h2
  omega
end Go.Proofs.YtilkpjcbmllgmaaDoor

namespace Go.Proofs.YtilkpjcbmllgmaaDoor
set_option linter.unusedVariables false
set_option linter.unusedSimpArgs false
open Go.RowKit

theorem run_append_form {w : World} (ty : TypeId) (B : Nat) (v : Value) (ts : List Tree) (hown : OwnF w B v ts)
    (m c1 : Nat) {op : Int} {nm : ByteArray} {ad : Option Addr} {n c : Nat} {tz : TypeId} (hm : w.heap[m]? = some (.cells #[.int .i64 op, .string nm, .slice ad n c] tz (0, 0))) (t : Tree)
    (hf : FormIn w (fun k => B ≤ k ∧ v.ownBlock ≠ some k) (.agg #[.int .i64 op, .string nm, .slice ad n c]) t) (hlen : ts.length ≤ 1000000) (hB : B ≤ w.heap.size) :
    ∃ a' c' w', (Builtin.append_ #[22, 22] ty #[v, .slice (some ⟨m, 0, none⟩) 1 c1]).run Tryd.prog w = .ok (.slice a' (ts.length + 1) c') w' ∧ OwnF w' B (.slice a' (ts.length + 1) c') (ts ++ [t]) ∧ w.grownBy w' v.ownBlock := by
  obtain ⟨i0, hi, hz0, hz1, hz2⟩ := info_parts infoF
  obtain ⟨rfl, rfl, rfl⟩ := hf.shape
  obtain ⟨hs', h1, hrow, hfs⟩ := hown
  have hnews : ∀ j u, ((t.hd ad c).cells)[j]? = some u → w.cell? ((⟨m, 0, none⟩ : Addr).add j) = some u := by
    obtain ⟨p0, p1, p2⟩ := cell_of3 hm
    intro j u hj
    have e : (⟨m, 0, none⟩ : Addr).add j = ⟨m, j, none⟩ := by unfold Addr.add; split <;> simp_all
    rw [e]
    match j with
    | 0 => simp only [Hd.cells, Tree.hd, List.getElem?_cons_zero, Option.some.injEq] at hj; rw [← hj]; exact p0
    | 1 => simp only [Hd.cells, Tree.hd, List.getElem?_cons_zero, List.getElem?_cons_succ, Option.some.injEq] at hj; rw [← hj]; exact p1
    | 2 => simp only [Hd.cells, Tree.hd, List.getElem?_cons_zero, List.getElem?_cons_succ, Option.some.injEq] at hj; rw [← hj]; exact p2
    | j + 3 => simp [Hd.cells] at hj
  have hone : ∀ u ∈ (t.hd ad c).cells, u.oneCell' = true := fun u hu => flatF_one [t.hd ad c] u (by simpa [flatF] using hu)
  have hl : ((t.hd ad c).cells).length = 1 * i0.size := by rw [hz1]; rfl
  rw [← hz1] at hrow
  obtain ⟨v', w', hr, h2, h3, h4⟩ := run_append_own (P := Tryd.prog) w B 22 ty 24 i0 _ i0.size 48 Tryd.underlying22 hi hz0 rfl hz2 (by rw [hz1]; rfl) (by rw [hz1]; decide) v ts.length _ hrow ⟨m, 0, none⟩ 1 c1 _ hl hnews hone (by unfold maxLen; omega) (by omega) hB
  have hbl := append_block (P := Tryd.prog) (w := w) B 22 ty 24 i0 _ Tryd.underlying22 hi hz0 v ts.length _ hrow ⟨m, 0, none⟩ 1 c1 _ hl hnews hone (by omega) (by omega) (by rw [hz2]; omega) hr
  have hwp : OwnF w' B v' (ts ++ [t]) := by
    refine ⟨hs' ++ [(ad, c)], by simp [h1], ?_, fun i hi1 hi2 => ?_⟩
    · rw [zip_snoc ts hs' t (ad, c) h1, flatF_append, List.length_append]
      rw [hz1] at h2
      have e : flatF [t.hd ad c] = (t.hd ad c).cells := by simp [flatF]
      rw [e]
      exact h2
    · have hgo : ∀ {u : Value} {y : Tree}, FormIn w (fun k => B ≤ k ∧ v.ownBlock ≠ some k) u y → FormIn w' (fun k => B ≤ k ∧ v'.ownBlock ≠ some k) u y := fun hy =>
        (hy.mono (S' := fun k => (B ≤ k ∧ v.ownBlock ≠ some k) ∧ v'.ownBlock ≠ some k) (fun k hk hS => ⟨hS, fun e => by
          rcases hbl with hb | hb
          · exact hS.2 (by rw [← hb, e])
          · rw [hb] at e; injection e with e; omega⟩)).kept (fun k hk hl => h3.block k hl (fun e => hk.1.2 e.symm)) |>.mono fun k _ hk => ⟨hk.1.1, hk.2⟩
      by_cases hi3 : i < ts.length
      · have := hgo (hfs i hi3 (by omega))
        simp only [List.getElem_append_left hi3, List.getElem_append_left (show i < hs'.length by omega)]
        exact this
      · have hi4 : i = ts.length := by simp at hi1; omega
        subst hi4
        have := hgo hf
        simp only [List.getElem_append_right (Nat.le_refl _), List.getElem_append_right (show hs'.length ≤ ts.length by omega), h1, Nat.sub_self, List.getElem_cons_zero]
        exact this
  obtain ⟨a', c', rfl, -⟩ := hwp.form
  have e : (ts ++ [t]).length = ts.length + 1 := by simp
  rw [e] at hr hwp
  exact ⟨a', c', w', hr, hwp, h3⟩

/-- At a step of a region that draws its order. -/
theorem step_append_form {w : World} {ops : Array Oper} {o : Oper} {a : Act} {K : Act → World → Prop} {Q : Exit → Act → World → Prop} {E : Prop} (hgd : o.guard = none) (s x : Operand)
    (ho : o.op = .call { callee := .builtin .append, args := #[s, x], argTypes := #[22, 22] }) (B : Nat) (v : Value) (ts : List Tree) (hs : a.eval s = v) (hown : OwnF w B v ts)
    (m c1 : Nat) (hx : a.eval x = .slice (some ⟨m, 0, none⟩) 1 c1) {op : Int} {nm : ByteArray} {ad : Option Addr} {n c : Nat} {tz : TypeId} (hm : w.heap[m]? = some (.cells #[.int .i64 op, .string nm, .slice ad n c] tz (0, 0))) (t : Tree)
    (hf : FormIn w (fun k => B ≤ k ∧ v.ownBlock ≠ some k) (.agg #[.int .i64 op, .string nm, .slice ad n c]) t) (hlen : ts.length ≤ 1000000) (hB : B ≤ w.heap.size)
    (h : ∀ a' c' w', OwnF w' B (.slice a' (ts.length + 1) c') (ts ++ [t]) → w.grownBy w' v.ownBlock → K (a.put o.dst (.slice a' (ts.length + 1) c')) w') :
    if Region.wanted o (yielded ops a.tmps) = true then Oper.wp Tryd.prog o a w K Q else E := by
  have hw : Region.wanted o (yielded ops a.tmps) = true := by simp [Region.wanted, hgd]
  rw [if_pos hw]
  obtain ⟨a', c', w', hr, h1, h2⟩ := run_append_form (w := w) o.type B v ts hown m c1 hm t hf hlen hB
  unfold Oper.wp execOp
  simp only [ho, resolve, invoke, builtin, Sem.run_bind, Sem.run_pure, Result.andThen_ok, List.map_toArray, List.map_cons, List.map_nil, hs, hx, hr]
  exact h a' c' w' h1 h2
end Go.Proofs.YtilkpjcbmllgmaaDoor

namespace Go.Proofs.YtilkpjcbmllgmaaDoor
set_option linter.unusedVariables false
set_option linter.unusedSimpArgs false
open Go.RowKit

theorem sn_nat (n : Int) (hn : 1 ≤ n) (hn' : n ≤ 9223372036854775807) (B b : Nat) (zs : List Int) (k : Nat) (w : World) (h : SrcAt w B b zs k) :
    Calls Tryd.prog 20 #[.pointer (some ⟨b, 0, none⟩), .int .i64 n] w fun e w' => ∃ (m k' : Nat), e = .returned (.int .i64 (m : Int)) ∧ (m : Int) < n ∧ SrcAt w' B b zs k' ∧ w.grownBy w' (some b) :=
  (sn_any n hn hn' B b zs k w h).mono fun e w' ⟨z, k', he, ⟨h0, h1⟩, hs, hg⟩ => by
    obtain ⟨m, rfl⟩ : ∃ m : Nat, z = (m : Int) := ⟨z.toNat, by omega⟩
    exact ⟨m, k', he, h1, hs, hg⟩

/-- What the builder leaves. -/
def FPost (n d : Nat) (w : World) (B b : Nat) (zs : List Int) (e : Ending) (w' : World) : Prop :=
  ∃ (t : Tree) (op : Int) (nm : ByteArray) (a : Option Addr) (m c q : Nat), e = .returned (.agg #[.int .i64 op, .string nm, .slice a m c]) ∧ t.all (nodeG n) = true ∧ t.depth ≤ d ∧
    FormIn w' (fun i => w.heap.size ≤ i) (.agg #[.int .i64 op, .string nm, .slice a m c]) t ∧ SrcAt w' B b zs q ∧ w.grownBy w' (some b)

theorem cell_one0 {w : World} {b : Nat} {x : Value} {t : TypeId} (h : w.heap[b]? = some (.cells #[x] t (0, 0))) : w.cell? ⟨b, 0, none⟩ = some x := by simp [World.cell?, h]
theorem only_below {w : World} {b : Nat} {o : Obj} {w' : World} (hg : (w.alloc o).grownBy w' (some b)) : w.grownBy w' (some b) := only_trans (only_alloc (only_refl w _) o) hg

theorem conv_letter (m : Nat) (h : m < 26) (w : World) (z : Int) (hz : z = 97 + (m : Int)) :
    (convert 38 9 (.slice (some ⟨w.heap.size, 0, none⟩) 1 1)).run Tryd.prog (w.alloc (.cells #[.int .u8 z] 5)) = .ok (.string (letter m)) (w.alloc (.cells #[.int .u8 z] 5)) := by
  subst hz
  refine run_convert_bytes_back (P := Tryd.prog) _ 38 9 5 ⟨w.heap.size, 0, none⟩ 1 [UInt8.ofNat (97 + m)] Tryd.underlying38 Tryd.underlying5 Tryd.underlying9 ?_
  intro j hj
  obtain rfl : j = 0 := by simpa using hj
  have h1 : (UInt8.ofNat (97 + m)).toNat = 97 + m := by rw [UInt8.toNat_ofNat']; omega
  have e : (([UInt8.ofNat (97 + m)] : List UInt8)[0].toNat : Int) = 97 + (m : Int) := by show ((UInt8.ofNat (97 + m)).toNat : Int) = _; rw [h1]; omega
  rw [e]
  exact cell_one0 (heap_alloc_new w (.cells #[.int .u8 (97 + (m : Int))] 5))

theorem gen_const (n z : Nat) (hz : z < 2) : (Tree.node (1 + (z : Int)) ⟨#[]⟩ []).all (nodeG n) = true := by
  have : z = 0 ∨ z = 1 := by omega
  rcases this with rfl | rfl <;> rfl
theorem gen_atom (n m : Nat) (hm : m < n) (hn : n ≤ 26) : (Tree.node 3 (letter m) []).all (nodeG n) = true := by
  have h1 := letter_name m (by omega)
  simp only [Tree.all, allL, nodeG, kindB, nameB, Tree.op_node, Tree.name_node, Tree.args_node, Bool.and_eq_true, Bool.or_eq_true, List.any_eq_true, List.mem_range]
  exact ⟨⟨⟨⟨by simp, by simp [h1]⟩, by simp⟩, .inr ⟨m, hm, by simp⟩⟩, trivial⟩

theorem FPost.alloc {n d : Nat} {w w' : World} {B b : Nat} {zs : List Int} {e : Ending} (h : FPost n d w B b zs e w') (o : Obj) : FPost n d w B b zs e (w'.alloc o) := by
  obtain ⟨t, op, nm, a, m, c, q, he, h1, h2, h3, h4, h5⟩ := h
  exact ⟨t, op, nm, a, m, c, q, he, h1, h2, h3.go ((Below.refl _ _).alloc (Nat.le_refl _) o), h4.alloc o, only_alloc h5 o⟩

/-- The row of kinds that the builder draws from. -/
theorem kinds_row (w : World) (j : Nat) (hj : j < 8) : ∃ op : Int, (op = 4 ∨ op = 5 ∨ op = 6 ∨ op = 7 ∨ op = 8) ∧
    (w.alloc (.cells #[.int .i64 4, .int .i64 4, .int .i64 5, .int .i64 5, .int .i64 6, .int .i64 6, .int .i64 7, .int .i64 8] 3)).cell? ⟨w.heap.size, j, none⟩ = some (.int .i64 op) := by
  have key : ∀ (W : World) (j : Nat), j < 8 → W.heap[w.heap.size]? = some (.cells #[.int .i64 4, .int .i64 4, .int .i64 5, .int .i64 5, .int .i64 6, .int .i64 6, .int .i64 7, .int .i64 8] 3 (0, 0)) → ∃ op : Int, (op = 4 ∨ op = 5 ∨ op = 6 ∨ op = 7 ∨ op = 8) ∧ W.cell? ⟨w.heap.size, j, none⟩ = some (.int .i64 op) := by
    intro W j hj hb
    refine ⟨([4, 4, 5, 5, 6, 6, 7, 8] : List Int)[j]'(by simpa using hj), ?_, ?_⟩
    · have : j = 0 ∨ j = 1 ∨ j = 2 ∨ j = 3 ∨ j = 4 ∨ j = 5 ∨ j = 6 ∨ j = 7 := by omega
      rcases this with rfl | rfl | rfl | rfl | rfl | rfl | rfl | rfl <;> simp
    · have : j = 0 ∨ j = 1 ∨ j = 2 ∨ j = 3 ∨ j = 4 ∨ j = 5 ∨ j = 6 ∨ j = 7 := by omega
      rcases this with rfl | rfl | rfl | rfl | rfl | rfl | rfl | rfl <;> simp [World.cell?, hb]
  exact key _ j hj (heap_alloc_new w _)

/-- What a leaf leaves. -/
theorem leaf_post {n d : Nat} {w w2 : World} {B b : Nat} {zs : List Int} {q : Nat} {t : Tree} {op : Int} {nm : ByteArray} (ht : t.all (nodeG n) = true) (ho : t.op = op) (hnm : t.name = nm) (ha : t.args = []) (hop : I64 op) (hs : nm.size ≤ maxLen)
    (hlt : b < w.heap.size) (h : SrcAt w2 B b zs q) (hg : w.grownBy w2 (some b)) :
    FPost n d w B b zs (.returned (.agg #[.int .i64 op, .string nm, .slice none 0 0])) (((w2.setCell ⟨w.heap.size, 0, none⟩ (.int .i64 op)).setCell ⟨w.heap.size, 1, none⟩ (.string nm)).setCell ⟨w.heap.size, 2, none⟩ (.slice none 0 0)) := by
  have hB := h.base
  obtain ⟨o, s, ts⟩ := t
  simp only [Tree.op_node, Tree.name_node, Tree.args_node] at ho hnm ha
  subst ho hnm ha
  have h3 := set_three w2 w.heap.size (.int .i64 o) (.string s) (.slice none 0 0)
  exact ⟨_, o, s, none, 0, 0, q, rfl, ht, by simp [Tree.depth, depthL], FormIn.mk (FormsIn.nil none) rfl hop hs (Nat.le_refl _) (Nat.zero_le _), h.kept h3 (fun g e => by injection e with e; omega), only_new hg h3 (Nat.le_refl _)⟩

/-- The state of the builder's loop: the reader, the formula under way, the result's box. -/
structure FL (w : World) (B b F : Nat) (zs : List Int) (op : Int) (v : Value) (w' : World) : Prop where
  hb : b < w.heap.size
  hF : w.heap.size < F
  src : ∃ q, SrcAt w' B b zs q
  box : w'.heap[F]? = some (.cells #[.int .i64 op, .string ⟨#[]⟩, v] 24 (0, 0))
  res : w'.heap[w.heap.size]? = some (.cells #[.int .i64 0, .string ⟨#[]⟩, .slice none 0 0] 24 (0, 0))
  gr : w.grownBy w' (some b)
section
variable {w w1 w2 : World} {B b F : Nat} {zs : List Int} {op : Int} {v : Value}
theorem FL.other {row : Option Nat} (h : FL w B b F zs op v w1) (hg : w1.grownBy w2 row) (hs : ∃ q, SrcAt w2 B b zs q) (h1 : row ≠ some F) (h2 : row ≠ some w.heap.size) (h3 : w.grownBy w2 (some b)) : FL w B b F zs op v w2 :=
  ⟨h.hb, h.hF, hs, by rw [hg.block F (lt_of_block h.box) (fun e => h1 e.symm)]; exact h.box, by rw [hg.block _ (lt_of_block h.res) (fun e => h2 e.symm)]; exact h.res, h3⟩
theorem FL.go (h : FL w B b F zs op v w1) (hb : Below w1.heap.size w1 w2) : FL w B b F zs op v w2 :=
  h.other (only_of_below hb none) (by obtain ⟨q, hq⟩ := h.src; exact ⟨q, hq.grow (only_of_below hb none)⟩) (by simp) (by simp) (only_trans h.gr (only_of_below hb _))
theorem FL.alloc (h : FL w B b F zs op v w1) (o : Obj) : FL w B b F zs op v (w1.alloc o) := h.go ((Below.refl _ _).alloc (Nat.le_refl _) o)
theorem FL.drew (h : FL w B b F zs op v w1) : FL w B b F zs op v w1.drew := h.go (Below.refl _ _).drew
theorem FL.call {q : Nat} (h : FL w B b F zs op v w1) (hs : SrcAt w2 B b zs q) (hg : w1.grownBy w2 (some b)) : FL w B b F zs op v w2 :=
  h.other hg ⟨q, hs⟩ (fun e => by have := h.hb; have := h.hF; injection e with e; omega) (fun e => by have := h.hb; injection e with e; omega) (only_trans h.gr hg)
theorem FL.append {row : Option Nat} (h : FL w B b F zs op v w1) (hg : w1.grownBy w2 row) (hr : ∀ g, row = some g → F < g) : FL w B b F zs op v w2 := by
  have hF := h.hF
  have hb := h.hb
  refine h.other hg ?_ (fun e => by have := hr F e; omega) (fun e => by have := hr _ e; omega) ?_
  · obtain ⟨q, hq⟩ := h.src
    exact ⟨q, hq.kept hg fun g e => ⟨by have := hr g e; have := hq.base; omega, by have := hr g e; omega⟩⟩
  · cases row with
    | none => exact only_trans h.gr ⟨hg.os, hg.tape, hg.output, hg.size, fun i hi _ => hg.block i hi (by simp)⟩
    | some g => exact only_new h.gr hg (by have := hr g rfl; omega)
theorem FL.store {v' : Value} (h : FL w B b F zs op v w1) : FL w B b F zs op v' (w1.setCell ⟨F, 2, none⟩ v') := by
  have hF := h.hF
  have hb := h.hb
  have hg : w1.grownBy (w1.setCell ⟨F, 2, none⟩ v') (some F) := only_setCell (p := ⟨F, 2, none⟩) (only_refl w1 (some F)) (.inl rfl) v'
  refine ⟨hb, hF, ?_, ?_, by rw [hg.block _ (lt_of_block h.res) (fun e => by injection e with e; omega)]; exact h.res, only_new h.gr hg (by omega)⟩
  · obtain ⟨q, hq⟩ := h.src
    exact ⟨q, hq.kept hg fun g e => by have := hq.base; injection e with e; omega⟩
  · exact setCell_heap_self h.box v'
theorem FL.all (h : FL w B b F zs op v w1) : w1.cell? ⟨F, 2, none⟩ = some v ∧ w1.frozen? ⟨F, 2, none⟩ = false ∧ F < w1.heap.size ∧ Hid (FL w B b F zs op v w1) :=
  ⟨(cell_of3 h.box).2.2, (cells_free h.box).2.2, lt_of_block h.box, h⟩

theorem fl_call {n d : Nat} (ih : ∀ (B b : Nat) (zs : List Int) (k : Nat) (w : World), SrcAt w B b zs k → Calls Tryd.prog 8 #[.pointer (some ⟨b, 0, none⟩), .int .i64 (n : Int), .int .i64 (d : Int)] w (FPost n d w B b zs)) (h : FL w B b F zs op v w1) :
    Calls Tryd.prog 8 #[.pointer (some ⟨b, 0, none⟩), .int .i64 (n : Int), .int .i64 (d : Int)] w1 fun e w2 => ∃ (t : Tree) (o : Int) (s : ByteArray) (a : Option Addr) (m c : Nat), e = .returned (.agg #[.int .i64 o, .string s, .slice a m c]) ∧ (t.all (nodeG n) = true ∧ t.depth ≤ d) ∧
      FormIn w2 (fun i => w1.heap.size ≤ i) (.agg #[.int .i64 o, .string s, .slice a m c]) t ∧ FL w B b F zs op v w2 ∧ w1.grownBy w2 (some b) := by
  obtain ⟨q, hq⟩ := h.src
  refine (ih B b zs q w1 hq).mono ?_
  rintro e w2 ⟨t, o, s, a, m, c, q2, rfl, h1, h2, h3, h4, h5⟩
  exact ⟨t, o, s, a, m, c, rfl, ⟨h1, h2⟩, h3, h.call h4 h5, h5⟩

theorem form_for {u : Value} {t : Tree} {ts : List Tree} {Bo : Nat} (hf : FormIn w2 (fun i => w1.heap.size ≤ i) u t) (ho : OwnF w1 Bo v ts) (hB : Bo ≤ w1.heap.size) (o : Obj) : FormIn (w2.alloc o) (fun k => Bo ≤ k ∧ v.ownBlock ≠ some k) u t :=
  (hf.mono (S' := fun k => Bo ≤ k ∧ v.ownBlock ≠ some k) fun k _ hk => ⟨by omega, fun e => by have := (ho.block k e).2; omega⟩).go ((Below.refl _ _).alloc (Nat.le_refl _) o)
end

/-- The parts of a formula under way. -/
def Parts (n d : Nat) (ts : List Tree) : Prop := ∀ t ∈ ts, t.all (nodeG n) = true ∧ t.depth ≤ d
theorem Parts.snoc {n d : Nat} {ts : List Tree} {t : Tree} (h : Parts n d ts) (ht : t.all (nodeG n) = true ∧ t.depth ≤ d) : Parts n d (ts ++ [t]) := fun x hx => by
  rcases List.mem_append.1 hx with h1 | h1
  · exact h x h1
  · rw [List.mem_singleton.1 h1]; exact ht
theorem Parts.node {n d : Nat} {ts : List Tree} (h : Parts n d ts) {op : Int} (ho : nodeG n (.node op ⟨#[]⟩ ts) = true) : (Tree.node op ⟨#[]⟩ ts).all (nodeG n) = true ∧ (Tree.node op ⟨#[]⟩ ts).depth ≤ d + 1 := by
  have h1 : allL (nodeG n) ts = true := by
    clear ho
    induction ts with
    | nil => rfl
    | cons t ts ih => simp only [allL, (h t (by simp)).1, ih fun x hx => h x (by simp [hx]), Bool.and_self]
  have h2 : depthL ts ≤ d + 1 := by
    clear ho h1
    induction ts with
    | nil => simp [depthL]
    | cons t ts ih =>
      have h3 := (h t (by simp)).2
      have h4 := ih fun x hx => h x (by simp [hx])
      simp only [depthL]
      omega
  simp only [Tree.all, ho, h1, Tree.depth, h2, Bool.and_self, and_self]
theorem node_good {n : Nat} {op : Int} {ts : List Tree} (h : (op = 4 ∧ ts.length = 1) ∨ ((op = 5 ∨ op = 6) ∧ 2 ≤ ts.length ∧ ts.length ≤ 3) ∨ ((op = 7 ∨ op = 8) ∧ ts.length = 2)) : nodeG n (.node op ⟨#[]⟩ ts) = true := by
  have h3 : op ≠ 3 := by omega
  have hk : kindB (.node op ⟨#[]⟩ ts) = true := by
    unfold kindB
    simp only [Tree.op_node, Tree.args_node]
    rcases h with ⟨rfl, h⟩ | ⟨rfl | rfl, h⟩ | ⟨rfl | rfl, h⟩
    · simp [h]
    · simp [h.1, h.2]; omega
    · simp [h.1, h.2]; omega
    · simp [h]
    · simp [h]
  have hn : nameB (.node op ⟨#[]⟩ ts) = true := by
    unfold nameB
    rw [if_neg (show ¬ (Tree.node op ⟨#[]⟩ ts).op = 3 from h3)]
    rfl
  have ha : decide (ts.length ≤ 3) = true := by rw [decide_eq_true_eq]; omega
  have hb : (op != 3) = true := by simpa using h3
  unfold nodeG
  rw [hk, hn]
  show (true && true && decide (ts.length ≤ 3) && (op != 3 || _)) = true
  rw [ha, hb]
  rfl

theorem fl_start {w w1 : World} {B b : Nat} {zs : List Int} {q : Nat} (hb : b < w.heap.size) (hs : SrcAt w1 B b zs q) (hg : w.grownBy w1 (some b)) (hk : w1.heap[w.heap.size]? = some (.cells #[.int .i64 0, .string ⟨#[]⟩, .slice none 0 0] 24 (0, 0))) (hlt : w.heap.size < w1.heap.size) (op : Int) :
    FL w B b (w1.heap.size + 1) zs op (.slice none 0 0) ((w1.alloc (.cells #[.int .i64 4, .int .i64 4, .int .i64 5, .int .i64 5, .int .i64 6, .int .i64 6, .int .i64 7, .int .i64 8] 3)).alloc (.cells #[.int .i64 op, .string ⟨#[]⟩, .slice none 0 0] 24)) := by
  have hb2 : Below w1.heap.size w1 ((w1.alloc (.cells #[.int .i64 4, .int .i64 4, .int .i64 5, .int .i64 5, .int .i64 6, .int .i64 6, .int .i64 7, .int .i64 8] 3)).alloc (.cells #[.int .i64 op, .string ⟨#[]⟩, .slice none 0 0] 24)) := ((Below.refl _ _).alloc (Nat.le_refl _) _).alloc (by simp) _
  exact ⟨hb, by omega, ⟨q, hs.grow (only_of_below hb2 none)⟩, heap_alloc_at (by simp), blk_kept hk hb2, only_trans hg (only_of_below hb2 _)⟩

/-- What is left when the loop has ended. -/
theorem node_post {n d : Nat} {w w1 : World} {B b F : Nat} {zs : List Int} {op : Int} {a : Option Addr} {c : Nat} {ts : List Tree} (h : FL w B b F zs op (.slice a ts.length c) w1) (ho : OwnF w1 (F + 1) (.slice a ts.length c) ts) (hp : Parts n d ts) (hop : I64 op) (hg : nodeG n (.node op ⟨#[]⟩ ts) = true) :
    FPost n (d + 1) w B b zs (.returned (.agg #[.int .i64 op, .string ⟨#[]⟩, .slice a ts.length c])) (((w1.setCell ⟨w.heap.size, 0, none⟩ (.int .i64 op)).setCell ⟨w.heap.size, 1, none⟩ (.string ⟨#[]⟩)).setCell ⟨w.heap.size, 2, none⟩ (.slice a ts.length c)) := by
  have hF := h.hF
  have hb := h.hb
  obtain ⟨q, hq⟩ := h.src
  have hB := hq.base
  have h3 := set_three w1 w.heap.size (.int .i64 op) (.string ⟨#[]⟩) (.slice a ts.length c)
  obtain ⟨a', c', e, hl, hc, hfs⟩ := ho.form
  obtain ⟨rfl, rfl⟩ : a = a' ∧ c = c' := by injection e with e1 e2 e3; exact ⟨e1, e3⟩
  obtain ⟨g1, g2⟩ := hp.node hg
  refine ⟨_, op, ⟨#[]⟩, a, ts.length, c, q, rfl, g1, g2, FormIn.mk (FormsIn.mono (FormsIn.kept hfs (fun i hi hl => h3.block i hl (fun e => by injection e with e; omega))) (fun i _ hi => by omega)) rfl hop nil_le hl hc, hq.kept h3 (fun g e => by injection e with e; omega), only_new h.gr h3 (Nat.le_refl _)⟩

set_option maxRecDepth 100000 in
set_option maxHeartbeats 2000000 in
theorem sform_any (n : Nat) (hn : 1 ≤ n) (hn' : n ≤ 26) : ∀ (d : Nat), d ≤ 10 → ∀ (B b : Nat) (zs : List Int) (k : Nat) (w : World), SrcAt w B b zs k →
    Calls Tryd.prog 8 #[.pointer (some ⟨b, 0, none⟩), .int .i64 (n : Int), .int .i64 (d : Int)] w (FPost n d w B b zs) := by
  intro d
  induction d with
  | zero =>
    intro _ B b zs k w h
    have hlt := h.lt
    have H := hidIt h
    clear h
    go_enter Tryd.func8, Tryd.ntmps8
    go_wp2_with fail
    refine (sn_nat 12 (by omega) (by omega) B b zs k _ (H.out.alloc _)).mono ?_
    rintro e w1 ⟨z, k1, rfl, hz, hs1, hg1⟩
    have HS1 := hidIt hs1
    have HG1 : Hid (w.grownBy w1 (some b)) := only_below hg1
    have HK1 := hidIt (own_kept (heap_alloc_new w _) hg1 (by omega))
    have hR1 := lt_of_block HK1.out
    obtain ⟨r0, r1, r2⟩ := cell_of3 HK1.out
    obtain ⟨f0, f1, f2⟩ := cells_free HK1.out
    clear hs1 hg1
    by_cases hz0 : z = 0
    · subst hz0
      go_wp2_with fail
      refine (sn_nat 2 (by omega) (by omega) B b zs k1 _ HS1.out).mono ?_
      rintro e w2 ⟨m, k2, rfl, hm, hs2, hg2⟩
      have HS2 := hidIt hs2
      have HG2 := hidIt (only_trans HG1.out hg2)
      have HK2 := hidIt (own_kept HK1.out hg2 (by omega))
      clear r0 r1 r2 f0 f1 f2 hR1 hs2 hg2
      have hR2 := lt_of_block HK2.out
      obtain ⟨r0, r1, r2⟩ := cell_of3 HK2.out
      obtain ⟨f0, f1, f2⟩ := cells_free HK2.out
      go_wp2_with fail
      refine bodyPost_ret (v := .agg #[.int .i64 (1 + (m : Int)), .string ⟨#[]⟩, .slice none 0 0]) (by simp [results, Tryd.results8, go_sem, r0, r1, r2, hR2]) rfl ?_
      exact leaf_post (op := 1 + (m : Int)) (nm := ⟨#[]⟩) (gen_const n m (by omega)) rfl rfl rfl (i64_one (by omega)) nil_le hlt HS2.out HG2.out
    · have HA1 := HS1.out
      go_wp2_with fail
      refine (sn_nat (n : Int) (by omega) (by omega) B b zs k1 _ HS1.out).mono ?_
      rintro e w2 ⟨m, k2, rfl, hm, hs2, hg2⟩
      have HS2 := hidIt hs2
      have HG2 := hidIt (only_trans HG1.out hg2)
      have HK2 := hidIt (own_kept HK1.out hg2 (by omega))
      have hcv := conv_letter m (by omega) w2 (97 + (m : Int)) rfl
      clear r0 r1 r2 f0 f1 f2 hR1 hs2 hg2 HA1
      have hR2 := lt_of_block HK2.out
      obtain ⟨r0, r1, r2⟩ := cell_of3 HK2.out
      obtain ⟨f0, f1, f2⟩ := cells_free HK2.out
      go_wp2_with fail
      refine bodyPost_ret (v := .agg #[.int .i64 3, .string (letter m), .slice none 0 0]) (by simp [results, Tryd.results8, go_sem, r0, r1, r2, hR2]) rfl ?_
      exact (leaf_post (op := 3) (nm := letter m) (gen_atom n m (by omega) hn') rfl rfl rfl (i64_one (by omega)) (by rw [letter_size]; unfold maxLen; omega) hlt HS2.out HG2.out).alloc _
  | succ d ih =>
    intro hd B b zs k w h
    have hlt := h.lt
    have H := hidIt h
    clear h
    go_enter Tryd.func8, Tryd.ntmps8
    go_wp2_with fail
    refine (sn_nat 12 (by omega) (by omega) B b zs k _ (H.out.alloc _)).mono ?_
    rintro e w1 ⟨z, k1, rfl, hz, hs1, hg1⟩
    have HS1 := hidIt hs1
    have HG1 : Hid (w.grownBy w1 (some b)) := only_below hg1
    have HK1 := hidIt (own_kept (heap_alloc_new w _) hg1 (by omega))
    have hR1 := lt_of_block HK1.out
    obtain ⟨r0, r1, r2⟩ := cell_of3 HK1.out
    obtain ⟨f0, f1, f2⟩ := cells_free HK1.out
    clear hs1 hg1
    by_cases hz4 : z < 4
    · have hz4' : (z : Int) < 4 := by omega
      by_cases hz0 : z = 0
      · subst hz0
        go_wp2_with fail
        refine (sn_nat 2 (by omega) (by omega) B b zs k1 _ HS1.out).mono ?_
        rintro e w2 ⟨m, k2, rfl, hm, hs2, hg2⟩
        have HS2 := hidIt hs2
        have HG2 := hidIt (only_trans HG1.out hg2)
        have HK2 := hidIt (own_kept HK1.out hg2 (by omega))
        clear r0 r1 r2 f0 f1 f2 hR1 hs2 hg2
        have hR2 := lt_of_block HK2.out
        obtain ⟨r0, r1, r2⟩ := cell_of3 HK2.out
        obtain ⟨f0, f1, f2⟩ := cells_free HK2.out
        go_wp2_with fail
        refine bodyPost_ret (v := .agg #[.int .i64 (1 + (m : Int)), .string ⟨#[]⟩, .slice none 0 0]) (by simp [results, Tryd.results8, go_sem, r0, r1, r2, hR2]) rfl ?_
        exact leaf_post (op := 1 + (m : Int)) (nm := ⟨#[]⟩) (gen_const n m (by omega)) rfl rfl rfl (i64_one (by omega)) nil_le hlt HS2.out HG2.out
      · have HA1 := HS1.out
        go_wp2_with fail
        refine (sn_nat (n : Int) (by omega) (by omega) B b zs k1 _ HS1.out).mono ?_
        rintro e w2 ⟨m, k2, rfl, hm, hs2, hg2⟩
        have HS2 := hidIt hs2
        have HG2 := hidIt (only_trans HG1.out hg2)
        have HK2 := hidIt (own_kept HK1.out hg2 (by omega))
        have hcv := conv_letter m (by omega) w2 (97 + (m : Int)) rfl
        clear r0 r1 r2 f0 f1 f2 hR1 hs2 hg2 HA1
        have hR2 := lt_of_block HK2.out
        obtain ⟨r0, r1, r2⟩ := cell_of3 HK2.out
        obtain ⟨f0, f1, f2⟩ := cells_free HK2.out
        go_wp2_with fail
        refine bodyPost_ret (v := .agg #[.int .i64 3, .string (letter m), .slice none 0 0]) (by simp [results, Tryd.results8, go_sem, r0, r1, r2, hR2]) rfl ?_
        exact (leaf_post (op := 3) (nm := letter m) (gen_atom n m (by omega) hn') rfl rfl rfl (i64_one (by omega)) (by rw [letter_size]; unfold maxLen; omega) hlt HS2.out HG2.out).alloc _
    · obtain ⟨j, rfl⟩ : ∃ j, z = j + 4 := ⟨z - 4, by omega⟩
      obtain ⟨op, hop, hcell⟩ := kinds_row w1 j (by omega)
      have hF0 := hidIt (fl_start hlt HS1.out HG1.out HK1.out hR1 op)
      clear r0 r1 r2 f0 f1 f2 HS1 HG1 HK1
      rcases hop with rfl | rfl | rfl | rfl | rfl
      · go_wp2_with fail
        have hF8 := hF0
        clear hF0 hcell
        go_loopw [10] (fun i wr => ∃ (k : Nat) (ts : List Tree) (a : Option Addr) (c : Nat), k = ts.length ∧ k ≤ 1 ∧ i = .int .i64 k ∧ Hid (FL w B b (w1.heap.size + 1) zs 4 (.slice a ts.length c) wr) ∧ Hid (OwnF wr (w1.heap.size + 1 + 1) (.slice a ts.length c) ts) ∧ Hid (Parts n d ts)) (fun i _ => 1 - (intOf i).toNat)
        case atStart => exact ⟨0, [], none, 0, rfl, by omega, rfl, hF8, OwnF.nil _ _, fun t ht => by cases ht⟩
        case round =>
          clear hF8
          obtain ⟨k, ts, a, c, hk, hk1, rfl, hst, hown, hparts⟩ := hrel
          obtain ⟨x2, y2, hFlt, -⟩ := hst.out.all
          by_cases hlt2 : k < 1
          · go_wp2_with fail
            have HIH := hidIt (ih (by omega))
            have hwd : IntKind.i64.wrap (d : Int) = (d : Int) := IntWalk.i64_in _ (by omega)
            have HO : Hid (OwnF wr.drew (w1.heap.size + 1 + 1) (.slice a ts.length c) ts) := hown.out.go (Below.refl _ _).drew
            go_region_law (first
                | ((refine step_append_form (by rfl) (.tmp 56) (.tmp 62) (by rfl) (w1.heap.size + 1 + 1) (.slice a ts.length c) ts (by rfl) ((HO.out.kept hg2 (fun g e => by injection e with e; omega)).alloc _) _ 1 (by rfl) (heap_alloc_new w2 _) t (form_for hf2 HO.out hFlt _) (by omega) (by have := hcall.all.2.2.1; simp; omega) ?_); intro a5 c5 w5 hown5 hg5; have happ := (hcall.alloc _).append hg5 (fun g e => (HO.out.block g e).1); have x5 := happ.all.1; have y5 := happ.all.2.1; have l5 := happ.all.2.2.1)
                | (go_simp; go_at_call 8; refine (fl_call HIH.out hst.out.drew).mono ?_; rintro e w2 ⟨t, o, s, a2, m2, c2, rfl, hgood, hf2, hcall, hg2⟩; have x3 := hcall.all.1; have l3 := hcall.all.2.2.1))
            all_goals
              have HF5 := hidIt (happ.store (v' := .slice a5 (ts.length + 1) c5))
              have HO5 := hidIt (hown5.kept (only_setCell (p := ⟨w1.heap.size + 1, 2, none⟩) (only_refl w5 (some (w1.heap.size + 1))) (.inl rfl) (.slice a5 (ts.length + 1) c5)) (fun g e => by injection e with e; omega))
              have HP5 := hidIt (hparts.out.snoc hgood)
              clear hf2 hcall hg2 hown5 hg5 happ x3 l3 x5 y5 l5 hgood HO HIH x2 y2 hFlt
              go_wp2_with fail
              go_roundw
              case rel => exact ⟨k + 1, ts ++ [t], a5, c5, by simp; omega, by omega, by go_num, by simpa using HF5, by simpa using HO5, HP5⟩
              case measure => simp [intOf]; omega
          · have hgd := hidIt (node_good (n := n) (op := 4) (ts := ts) (by simp; omega))
            obtain ⟨x0, x1, x2'⟩ := cell_of3 hst.out.box
            obtain ⟨r0, r1, r2⟩ := cell_of3 hst.out.res
            obtain ⟨f0, f1, f2⟩ := cells_free hst.out.res
            have hRl := lt_of_block hst.out.res
            go_wp2_with fail
            refine bodyPost_ret (v := .agg #[.int .i64 4, .string ⟨#[]⟩, .slice a ts.length c]) (by simp [results, Tryd.results8, go_sem, r0, r1, r2, hRl]) rfl ?_
            exact node_post hst.out hown.out hparts.out (i64_small (by omega) (by omega)) hgd.out
      · go_wp2_with fail
        obtain ⟨qq, hqq⟩ := hF0.out.src
        refine (sn_nat 2 (by omega) (by omega) B b zs qq _ hqq).mono ?_
        rintro e w8 ⟨z2, q2, rfl, hz2, hs8, hg8⟩
        have hF8 := hidIt (hF0.out.call hs8 hg8)
        clear hs8 hg8 hqq hF0 hcell
        go_wp2_with fail
        go_loopw [10] (fun i wr => ∃ (k : Nat) (ts : List Tree) (a : Option Addr) (c : Nat), k = ts.length ∧ k ≤ (2 + z2) ∧ i = .int .i64 k ∧ Hid (FL w B b (w1.heap.size + 1) zs 5 (.slice a ts.length c) wr) ∧ Hid (OwnF wr (w1.heap.size + 1 + 1) (.slice a ts.length c) ts) ∧ Hid (Parts n d ts)) (fun i _ => (2 + z2) - (intOf i).toNat)
        case atStart => exact ⟨0, [], none, 0, rfl, by omega, rfl, hF8, OwnF.nil _ _, fun t ht => by cases ht⟩
        case round =>
          clear hF8
          obtain ⟨k, ts, a, c, hk, hk1, rfl, hst, hown, hparts⟩ := hrel
          obtain ⟨x2, y2, hFlt, -⟩ := hst.out.all
          by_cases hlt2 : k < (2 + z2)
          · go_wp2_with fail
            have HIH := hidIt (ih (by omega))
            have hwd : IntKind.i64.wrap (d : Int) = (d : Int) := IntWalk.i64_in _ (by omega)
            have HO : Hid (OwnF wr.drew (w1.heap.size + 1 + 1) (.slice a ts.length c) ts) := hown.out.go (Below.refl _ _).drew
            go_region_law (first
                | ((refine step_append_form (by rfl) (.tmp 56) (.tmp 62) (by rfl) (w1.heap.size + 1 + 1) (.slice a ts.length c) ts (by rfl) ((HO.out.kept hg2 (fun g e => by injection e with e; omega)).alloc _) _ 1 (by rfl) (heap_alloc_new w2 _) t (form_for hf2 HO.out hFlt _) (by omega) (by have := hcall.all.2.2.1; simp; omega) ?_); intro a5 c5 w5 hown5 hg5; have happ := (hcall.alloc _).append hg5 (fun g e => (HO.out.block g e).1); have x5 := happ.all.1; have y5 := happ.all.2.1; have l5 := happ.all.2.2.1)
                | (go_simp; go_at_call 8; refine (fl_call HIH.out hst.out.drew).mono ?_; rintro e w2 ⟨t, o, s, a2, m2, c2, rfl, hgood, hf2, hcall, hg2⟩; have x3 := hcall.all.1; have l3 := hcall.all.2.2.1))
            all_goals
              have HF5 := hidIt (happ.store (v' := .slice a5 (ts.length + 1) c5))
              have HO5 := hidIt (hown5.kept (only_setCell (p := ⟨w1.heap.size + 1, 2, none⟩) (only_refl w5 (some (w1.heap.size + 1))) (.inl rfl) (.slice a5 (ts.length + 1) c5)) (fun g e => by injection e with e; omega))
              have HP5 := hidIt (hparts.out.snoc hgood)
              clear hf2 hcall hg2 hown5 hg5 happ x3 l3 x5 y5 l5 hgood HO HIH x2 y2 hFlt
              go_wp2_with fail
              go_roundw
              case rel => exact ⟨k + 1, ts ++ [t], a5, c5, by simp; omega, by omega, by go_num, by simpa using HF5, by simpa using HO5, HP5⟩
              case measure => simp [intOf]; omega
          · have hgd := hidIt (node_good (n := n) (op := 5) (ts := ts) (by simp; omega))
            obtain ⟨x0, x1, x2'⟩ := cell_of3 hst.out.box
            obtain ⟨r0, r1, r2⟩ := cell_of3 hst.out.res
            obtain ⟨f0, f1, f2⟩ := cells_free hst.out.res
            have hRl := lt_of_block hst.out.res
            go_wp2_with fail
            refine bodyPost_ret (v := .agg #[.int .i64 5, .string ⟨#[]⟩, .slice a ts.length c]) (by simp [results, Tryd.results8, go_sem, r0, r1, r2, hRl]) rfl ?_
            exact node_post hst.out hown.out hparts.out (i64_small (by omega) (by omega)) hgd.out
      · go_wp2_with fail
        obtain ⟨qq, hqq⟩ := hF0.out.src
        refine (sn_nat 2 (by omega) (by omega) B b zs qq _ hqq).mono ?_
        rintro e w8 ⟨z2, q2, rfl, hz2, hs8, hg8⟩
        have hF8 := hidIt (hF0.out.call hs8 hg8)
        clear hs8 hg8 hqq hF0 hcell
        go_wp2_with fail
        go_loopw [10] (fun i wr => ∃ (k : Nat) (ts : List Tree) (a : Option Addr) (c : Nat), k = ts.length ∧ k ≤ (2 + z2) ∧ i = .int .i64 k ∧ Hid (FL w B b (w1.heap.size + 1) zs 6 (.slice a ts.length c) wr) ∧ Hid (OwnF wr (w1.heap.size + 1 + 1) (.slice a ts.length c) ts) ∧ Hid (Parts n d ts)) (fun i _ => (2 + z2) - (intOf i).toNat)
        case atStart => exact ⟨0, [], none, 0, rfl, by omega, rfl, hF8, OwnF.nil _ _, fun t ht => by cases ht⟩
        case round =>
          clear hF8
          obtain ⟨k, ts, a, c, hk, hk1, rfl, hst, hown, hparts⟩ := hrel
          obtain ⟨x2, y2, hFlt, -⟩ := hst.out.all
          by_cases hlt2 : k < (2 + z2)
          · go_wp2_with fail
            have HIH := hidIt (ih (by omega))
            have hwd : IntKind.i64.wrap (d : Int) = (d : Int) := IntWalk.i64_in _ (by omega)
            have HO : Hid (OwnF wr.drew (w1.heap.size + 1 + 1) (.slice a ts.length c) ts) := hown.out.go (Below.refl _ _).drew
            go_region_law (first
                | ((refine step_append_form (by rfl) (.tmp 56) (.tmp 62) (by rfl) (w1.heap.size + 1 + 1) (.slice a ts.length c) ts (by rfl) ((HO.out.kept hg2 (fun g e => by injection e with e; omega)).alloc _) _ 1 (by rfl) (heap_alloc_new w2 _) t (form_for hf2 HO.out hFlt _) (by omega) (by have := hcall.all.2.2.1; simp; omega) ?_); intro a5 c5 w5 hown5 hg5; have happ := (hcall.alloc _).append hg5 (fun g e => (HO.out.block g e).1); have x5 := happ.all.1; have y5 := happ.all.2.1; have l5 := happ.all.2.2.1)
                | (go_simp; go_at_call 8; refine (fl_call HIH.out hst.out.drew).mono ?_; rintro e w2 ⟨t, o, s, a2, m2, c2, rfl, hgood, hf2, hcall, hg2⟩; have x3 := hcall.all.1; have l3 := hcall.all.2.2.1))
            all_goals
              have HF5 := hidIt (happ.store (v' := .slice a5 (ts.length + 1) c5))
              have HO5 := hidIt (hown5.kept (only_setCell (p := ⟨w1.heap.size + 1, 2, none⟩) (only_refl w5 (some (w1.heap.size + 1))) (.inl rfl) (.slice a5 (ts.length + 1) c5)) (fun g e => by injection e with e; omega))
              have HP5 := hidIt (hparts.out.snoc hgood)
              clear hf2 hcall hg2 hown5 hg5 happ x3 l3 x5 y5 l5 hgood HO HIH x2 y2 hFlt
              go_wp2_with fail
              go_roundw
              case rel => exact ⟨k + 1, ts ++ [t], a5, c5, by simp; omega, by omega, by go_num, by simpa using HF5, by simpa using HO5, HP5⟩
              case measure => simp [intOf]; omega
          · have hgd := hidIt (node_good (n := n) (op := 6) (ts := ts) (by simp; omega))
            obtain ⟨x0, x1, x2'⟩ := cell_of3 hst.out.box
            obtain ⟨r0, r1, r2⟩ := cell_of3 hst.out.res
            obtain ⟨f0, f1, f2⟩ := cells_free hst.out.res
            have hRl := lt_of_block hst.out.res
            go_wp2_with fail
            refine bodyPost_ret (v := .agg #[.int .i64 6, .string ⟨#[]⟩, .slice a ts.length c]) (by simp [results, Tryd.results8, go_sem, r0, r1, r2, hRl]) rfl ?_
            exact node_post hst.out hown.out hparts.out (i64_small (by omega) (by omega)) hgd.out
      · go_wp2_with fail
        have hF8 := hF0
        clear hF0 hcell
        go_loopw [10] (fun i wr => ∃ (k : Nat) (ts : List Tree) (a : Option Addr) (c : Nat), k = ts.length ∧ k ≤ 2 ∧ i = .int .i64 k ∧ Hid (FL w B b (w1.heap.size + 1) zs 7 (.slice a ts.length c) wr) ∧ Hid (OwnF wr (w1.heap.size + 1 + 1) (.slice a ts.length c) ts) ∧ Hid (Parts n d ts)) (fun i _ => 2 - (intOf i).toNat)
        case atStart => exact ⟨0, [], none, 0, rfl, by omega, rfl, hF8, OwnF.nil _ _, fun t ht => by cases ht⟩
        case round =>
          clear hF8
          obtain ⟨k, ts, a, c, hk, hk1, rfl, hst, hown, hparts⟩ := hrel
          obtain ⟨x2, y2, hFlt, -⟩ := hst.out.all
          by_cases hlt2 : k < 2
          · go_wp2_with fail
            have HIH := hidIt (ih (by omega))
            have hwd : IntKind.i64.wrap (d : Int) = (d : Int) := IntWalk.i64_in _ (by omega)
            have HO : Hid (OwnF wr.drew (w1.heap.size + 1 + 1) (.slice a ts.length c) ts) := hown.out.go (Below.refl _ _).drew
            go_region_law (first
                | ((refine step_append_form (by rfl) (.tmp 56) (.tmp 62) (by rfl) (w1.heap.size + 1 + 1) (.slice a ts.length c) ts (by rfl) ((HO.out.kept hg2 (fun g e => by injection e with e; omega)).alloc _) _ 1 (by rfl) (heap_alloc_new w2 _) t (form_for hf2 HO.out hFlt _) (by omega) (by have := hcall.all.2.2.1; simp; omega) ?_); intro a5 c5 w5 hown5 hg5; have happ := (hcall.alloc _).append hg5 (fun g e => (HO.out.block g e).1); have x5 := happ.all.1; have y5 := happ.all.2.1; have l5 := happ.all.2.2.1)
                | (go_simp; go_at_call 8; refine (fl_call HIH.out hst.out.drew).mono ?_; rintro e w2 ⟨t, o, s, a2, m2, c2, rfl, hgood, hf2, hcall, hg2⟩; have x3 := hcall.all.1; have l3 := hcall.all.2.2.1))
            all_goals
              have HF5 := hidIt (happ.store (v' := .slice a5 (ts.length + 1) c5))
              have HO5 := hidIt (hown5.kept (only_setCell (p := ⟨w1.heap.size + 1, 2, none⟩) (only_refl w5 (some (w1.heap.size + 1))) (.inl rfl) (.slice a5 (ts.length + 1) c5)) (fun g e => by injection e with e; omega))
              have HP5 := hidIt (hparts.out.snoc hgood)
              clear hf2 hcall hg2 hown5 hg5 happ x3 l3 x5 y5 l5 hgood HO HIH x2 y2 hFlt
              go_wp2_with fail
              go_roundw
              case rel => exact ⟨k + 1, ts ++ [t], a5, c5, by simp; omega, by omega, by go_num, by simpa using HF5, by simpa using HO5, HP5⟩
              case measure => simp [intOf]; omega
          · have hgd := hidIt (node_good (n := n) (op := 7) (ts := ts) (by simp; omega))
            obtain ⟨x0, x1, x2'⟩ := cell_of3 hst.out.box
            obtain ⟨r0, r1, r2⟩ := cell_of3 hst.out.res
            obtain ⟨f0, f1, f2⟩ := cells_free hst.out.res
            have hRl := lt_of_block hst.out.res
            go_wp2_with fail
            refine bodyPost_ret (v := .agg #[.int .i64 7, .string ⟨#[]⟩, .slice a ts.length c]) (by simp [results, Tryd.results8, go_sem, r0, r1, r2, hRl]) rfl ?_
            exact node_post hst.out hown.out hparts.out (i64_small (by omega) (by omega)) hgd.out
      · go_wp2_with fail
        have hF8 := hF0
        clear hF0 hcell
        go_loopw [10] (fun i wr => ∃ (k : Nat) (ts : List Tree) (a : Option Addr) (c : Nat), k = ts.length ∧ k ≤ 2 ∧ i = .int .i64 k ∧ Hid (FL w B b (w1.heap.size + 1) zs 8 (.slice a ts.length c) wr) ∧ Hid (OwnF wr (w1.heap.size + 1 + 1) (.slice a ts.length c) ts) ∧ Hid (Parts n d ts)) (fun i _ => 2 - (intOf i).toNat)
        case atStart => exact ⟨0, [], none, 0, rfl, by omega, rfl, hF8, OwnF.nil _ _, fun t ht => by cases ht⟩
        case round =>
          clear hF8
          obtain ⟨k, ts, a, c, hk, hk1, rfl, hst, hown, hparts⟩ := hrel
          obtain ⟨x2, y2, hFlt, -⟩ := hst.out.all
          by_cases hlt2 : k < 2
          · go_wp2_with fail
            have HIH := hidIt (ih (by omega))
            have hwd : IntKind.i64.wrap (d : Int) = (d : Int) := IntWalk.i64_in _ (by omega)
            have HO : Hid (OwnF wr.drew (w1.heap.size + 1 + 1) (.slice a ts.length c) ts) := hown.out.go (Below.refl _ _).drew
            go_region_law (first
                | ((refine step_append_form (by rfl) (.tmp 56) (.tmp 62) (by rfl) (w1.heap.size + 1 + 1) (.slice a ts.length c) ts (by rfl) ((HO.out.kept hg2 (fun g e => by injection e with e; omega)).alloc _) _ 1 (by rfl) (heap_alloc_new w2 _) t (form_for hf2 HO.out hFlt _) (by omega) (by have := hcall.all.2.2.1; simp; omega) ?_); intro a5 c5 w5 hown5 hg5; have happ := (hcall.alloc _).append hg5 (fun g e => (HO.out.block g e).1); have x5 := happ.all.1; have y5 := happ.all.2.1; have l5 := happ.all.2.2.1)
                | (go_simp; go_at_call 8; refine (fl_call HIH.out hst.out.drew).mono ?_; rintro e w2 ⟨t, o, s, a2, m2, c2, rfl, hgood, hf2, hcall, hg2⟩; have x3 := hcall.all.1; have l3 := hcall.all.2.2.1))
            all_goals
              have HF5 := hidIt (happ.store (v' := .slice a5 (ts.length + 1) c5))
              have HO5 := hidIt (hown5.kept (only_setCell (p := ⟨w1.heap.size + 1, 2, none⟩) (only_refl w5 (some (w1.heap.size + 1))) (.inl rfl) (.slice a5 (ts.length + 1) c5)) (fun g e => by injection e with e; omega))
              have HP5 := hidIt (hparts.out.snoc hgood)
              clear hf2 hcall hg2 hown5 hg5 happ x3 l3 x5 y5 l5 hgood HO HIH x2 y2 hFlt
              go_wp2_with fail
              go_roundw
              case rel => exact ⟨k + 1, ts ++ [t], a5, c5, by simp; omega, by omega, by go_num, by simpa using HF5, by simpa using HO5, HP5⟩
              case measure => simp [intOf]; omega
          · have hgd := hidIt (node_good (n := n) (op := 8) (ts := ts) (by simp; omega))
            obtain ⟨x0, x1, x2'⟩ := cell_of3 hst.out.box
            obtain ⟨r0, r1, r2⟩ := cell_of3 hst.out.res
            obtain ⟨f0, f1, f2⟩ := cells_free hst.out.res
            have hRl := lt_of_block hst.out.res
            go_wp2_with fail
            refine bodyPost_ret (v := .agg #[.int .i64 8, .string ⟨#[]⟩, .slice a ts.length c]) (by simp [results, Tryd.results8, go_sem, r0, r1, r2, hRl]) rfl ?_
            exact node_post hst.out hown.out hparts.out (i64_small (by omega) (by omega)) hgd.out
end Go.Proofs.YtilkpjcbmllgmaaDoor

namespace Go.Proofs.YtilkpjcbmllgmaaDoor
set_option linter.unusedVariables false
set_option linter.unusedSimpArgs false
open Go.RowKit

theorem infoStr : (Tryd.prog.info? 9).map (fun i => (i.zero, i.size, i.bytes)) = some (some (.string ⟨#[]⟩), 1, 16) := by kernel_rfl

/-- The value is a list of strings that the call owns, from block B on. -/
def OwnS (w : World) (B : Nat) (v : Value) (l : List ByteArray) : Prop := w.ownsRow B 9 1 v l.length (l.map Value.string) ∧ ∀ s ∈ l, s.size ≤ maxLen

section
variable {w w' : World} {B : Nat} {v : Value} {l : List ByteArray}
theorem OwnS.block (h : OwnS w B v l) : ∀ g, v.ownBlock = some g → B ≤ g ∧ g < w.heap.size := World.ownsRow.lt h.1
theorem OwnS.nil (w : World) (B : Nat) : OwnS w B (.slice none 0 0) [] := ⟨World.ownsRow_nil w B _ _, fun s h => by cases h⟩
theorem OwnS.kept {row : Option Nat} (h : OwnS w B v l) (hg : w.grownBy w' row) (hr : ∀ g, row = some g → g < B) : OwnS w' B v l := by
  refine ⟨World.ownsRow.kept h.1 hg ?_, h.2⟩
  cases hv : v.ownBlock with
  | none => exact .inl rfl
  | some g =>
    refine .inr (fun e => ?_)
    have h2 := (h.block g hv).1
    have h3 := hr g e.symm
    omega
theorem OwnS.go (h : OwnS w B v l) (hb : Below w.heap.size w w') : OwnS w' B v l := h.kept (only_of_below hb none) (fun g e => by cases e)
theorem OwnS.alloc (h : OwnS w B v l) (o : Obj) : OwnS (w.alloc o) B v l := h.go ((Below.refl _ _).alloc (Nat.le_refl _) o)
theorem OwnS.form (h : OwnS w B v l) : ∃ (a : Option Addr) (c : Nat), v = .slice a l.length c ∧ l.length ≤ c ∧ c ≤ maxLen ∧ StrsIn w (fun k => B ≤ k) a l := by
  rcases h.1.2 with ⟨rfl, h0⟩ | ⟨g, cap, cur, rfl, hB, hg, hnc, hcm, hcs, htake⟩
  · obtain rfl : l = [] := List.eq_nil_of_length_eq_zero h0
    exact ⟨none, 0, rfl, Nat.le_refl _, Nat.zero_le _, StrsIn.nil none⟩
  · refine ⟨_, cap, rfl, hnc, hcm, g, 0, fun _ => ⟨rfl, hB⟩, fun i hi => ⟨?_, h.2 _ (List.getElem_mem hi)⟩⟩
    have := World.ownsRow.cells h.1 (g := g) rfl i (.string l[i]) (by simp [List.getElem?_eq_getElem hi])
    have e : (⟨g, 0, none⟩ : Addr).add i = ⟨g, 0 + i, none⟩ := by unfold Addr.add; split <;> simp_all
    rwa [e] at this
end

/-- append of one string, which lies in a row of its own. -/
theorem wpList_append_str {w : World} {ops : Array Oper} {rest : List Oper} {o : Oper} {a : Act} {Q : Exit → Act → World → Prop} (hgd : o.guard = none) (s x : Operand)
    (ho : o.op = .call { callee := .builtin .append, args := #[s, x], argTypes := #[42, 42] }) (B : Nat) (v : Value) (l : List ByteArray) (hs : a.eval s = v) (hown : OwnS w B v l)
    (m c1 : Nat) (hx : a.eval x = .slice (some ⟨m, 0, none⟩) 1 c1) {t : ByteArray} {ty : TypeId} (hm : w.heap[m]? = some (.cells #[.string t] ty (0, 0))) (ht : t.size ≤ maxLen) (hlen : l.length ≤ 1000000) (hB : B ≤ w.heap.size)
    (h : ∀ v' w', OwnS w' B v' (l ++ [t]) → w.grownBy w' v.ownBlock → wpList Tryd.prog ops Q rest (a.put o.dst v') w') : wpList Tryd.prog ops Q (o :: rest) a w := by
  obtain ⟨i0, hi, hz0, hz1, hz2⟩ := info_parts infoStr
  refine wpList_append_own w hgd s x 42 ho B 9 i0 _ 1 16 Tryd.underlying42 hi hz0 hz1 hz2 rfl (by decide) v l.length _ hs hown.1 ⟨m, 0, none⟩ 1 c1 [.string t] hx rfl ?_ (fun u hu => by rw [List.mem_singleton.1 hu]; rfl) (by unfold maxLen; omega) (by omega) hB (fun v' w' h2 h3 _ => ?_)
  · intro j u hj
    match j, hj with
    | 0, hj =>
      simp only [List.getElem?_cons_zero, Option.some.injEq] at hj
      rw [← hj]
      have e : (⟨m, 0, none⟩ : Addr).add 0 = ⟨m, 0, none⟩ := rfl
      rw [e]
      exact cell_one0 hm
    | j + 1, hj => simp at hj
  · refine h v' w' ⟨?_, fun s hs => ?_⟩ h3
    · rw [List.map_append, List.length_append]
      exact h2
    · rcases List.mem_append.1 hs with h4 | h4
      · exact hown.2 s h4
      · rw [List.mem_singleton.1 h4]; exact ht

/-- The atoms that are true are letters of the first n. -/
def Letters (n : Nat) (l : List ByteArray) : Prop := ∀ s ∈ l, ∃ m, m < n ∧ s = letter m

theorem sA_own {w a a' : World} {b : Nat} {row : Option Nat} (h : w.grownBy a (some b)) (hg : a.grownBy a' row) (hr : ∀ g, row = some g → w.heap.size ≤ g) : w.grownBy a' (some b) :=
  ⟨hg.os.trans h.os, hg.tape.trans h.tape, hg.output.trans h.output, Nat.le_trans h.size hg.size, fun k hk hne => (hg.block k (Nat.lt_of_lt_of_le hk h.size) (fun e => by have := hr k e.symm; omega)).trans (h.block k hk hne)⟩
theorem SrcAt.own {w w' : World} {B b : Nat} {zs : List Int} {k Bo : Nat} {row : Option Nat} (h : SrcAt w B b zs k) (hg : w.grownBy w' row) (hr : ∀ g, row = some g → Bo ≤ g) (hb : b < Bo) : SrcAt w' B b zs k :=
  h.kept hg (fun g e => ⟨by have := hr g e; have := h.base; omega, by have := hr g e; omega⟩)

set_option maxRecDepth 100000 in
set_option maxHeartbeats 2000000 in
theorem yes_any (n : Nat) (hn : n ≤ 26) (B b : Nat) (zs : List Int) (k : Nat) (w : World) (h : SrcAt w B b zs k) :
    Calls Tryd.prog 25 #[.pointer (some ⟨b, 0, none⟩), .int .i64 (n : Int)] w fun e w' => ∃ (v : Value) (l : List ByteArray) (q : Nat), e = .returned v ∧ OwnS w' w.heap.size v l ∧ l.length ≤ n ∧ Letters n l ∧ SrcAt w' B b zs q ∧ w.grownBy w' (some b) := by
  have hlt := h.lt
  have H := hidIt h
  clear h
  go_enter Tryd.func25, Tryd.ntmps25
  go_wp2_with fail
  go_loopw [5, 6] (fun v i wr => ∃ (k q : Nat) (l : List ByteArray), i = .int .i64 k ∧ k ≤ n ∧ l.length ≤ k ∧ Hid (OwnS wr w.heap.size v l) ∧ Hid (Letters n l) ∧ Hid (SrcAt wr B b zs q) ∧ Hid (w.grownBy wr (some b))) (fun _ i _ => n - (intOf i).toNat)
  case atStart => exact ⟨0, k, [], rfl, by omega, by simp, OwnS.nil _ _, (fun s hs => by cases hs), H.out, only_refl _ _⟩
  case round =>
    clear H
    obtain ⟨k, q, l, rfl, hk, hl, hown, hlet, hsrc, hgr⟩ := hrel
    by_cases hlt2 : k < n
    · go_wp2_with fail
      refine (sn_nat 2 (by omega) (by omega) B b zs q _ hsrc.out).mono ?_
      rintro e w2 ⟨m, q2, rfl, hm, hs2, hg2⟩
      have HS2 := hidIt hs2
      have HG2 := hidIt (only_trans hgr.out hg2)
      have HO2 := hidIt (hown.out.kept hg2 (fun g e => by injection e with e; omega))
      have hsz2 : w.heap.size ≤ w2.heap.size := HG2.out.size
      clear hs2 hg2
      by_cases hm1 : m = 1
      · subst hm1
        have hcv := conv_letter k (by omega) w2 (97 + (k : Int)) rfl
        have hbw : w.heap.size ≤ ((w2.alloc (.cells #[.int .u8 (97 + (k : Int))] 5)).alloc (.cells #[.string (letter k)] 9)).heap.size := by simp; omega
        have HNW := hidIt (heap_alloc_at (w := w2.alloc (.cells #[.int .u8 (97 + (k : Int))] 5)) (o := .cells #[.string (letter k)] 9) (n := w2.heap.size + 1) (by simp))
        have HO3 := hidIt ((HO2.out.alloc (.cells #[.int .u8 (97 + (k : Int))] 5)).alloc (.cells #[.string (letter k)] 9))
        have HBW := hidIt hbw
        clear hbw
        go_wp2_with (at_builtin; refine wpList_append_str rfl _ _ rfl w.heap.size _ l rfl HO3.out _ 1 rfl HNW.out (by rw [letter_size]; unfold maxLen; omega) (by omega) HBW.out ?_)
        intro v' w3 ho3 hg3
        have hr0 : ∀ gg, u5.ownBlock = some gg → w.heap.size ≤ gg := fun gg e => (hown.out.block gg e).1
        have HO4 := hidIt ho3
        have HS3 := hidIt (((HS2.out.alloc (.cells #[.int .u8 (97 + (k : Int))] 5)).alloc (.cells #[.string (letter k)] 9)).own hg3 hr0 hlt)
        have HG3 := hidIt (sA_own (only_alloc (only_alloc HG2.out (.cells #[.int .u8 (97 + (k : Int))] 5)) (.cells #[.string (letter k)] 9)) hg3 hr0)
        have HL3 : Hid (Letters n (l ++ [letter k])) := fun s hs => by
          rcases List.mem_append.1 hs with h1 | h1
          · exact hlet.out s h1
          · rw [List.mem_singleton.1 h1]; exact ⟨k, hlt2, rfl⟩
        clear ho3 hg3 hr0 hcv
        go_wp2_with fail
        go_roundw
        case rel => exact ⟨k + 1, q2, l ++ [letter k], by go_num, by omega, by simp; omega, HO4, HL3, HS3, HG3⟩
        case measure => simp [intOf]; omega
      · have hm0 : ((m : Int) == 1) = false := by simp; omega
        go_wp2_with fail
        go_roundw
        case rel => exact ⟨k + 1, q2, l, by go_num, by omega, by omega, HO2, hlet, HS2, HG2⟩
        case measure => simp [intOf]; omega
    · go_wp2_with fail
      go_ret
      exact ⟨_, l, q, rfl, hown.out, by omega, hlet.out, hsrc.out, hgr.out⟩
end Go.Proofs.YtilkpjcbmllgmaaDoor

namespace Go.Proofs.YtilkpjcbmllgmaaDoor
set_option linter.unusedVariables false
set_option linter.unusedSimpArgs false
open Go Go.RowKit

section
variable {P : Program} {ops : Array Oper} {C : World → Prop} {G : World → World → Prop} {R : Tmp → Option (Value → World → Prop)} {E : (Tmp → Prop) → Act → Prop} {o : Oper} {rest : List Oper} {F : Tmp → Prop} {a : Act}
theorem walkR_skip (hw : Region.wanted o (yielded ops a.tmps) = false) (h : walkR P ops C G R E rest F (a.put o.dst undef)) : walkR P ops C G R E (o :: rest) F a :=
  ⟨fun h1 => (by rw [hw] at h1; cases h1), fun _ => h⟩
theorem walkR_plain {t : Tmp} (hw : Region.wanted o (yielded ops a.tmps) = true) (hd : o.dst = some t) (hr : R t = none) {x : Value} (hx : ∀ w, C w → Leans ops R F o a w → plainUpon x w ((execOp a.eval o).run P w)) (h : walkR P ops C G R E rest F (a.put (some t) x)) : walkR P ops C G R E (o :: rest) F a := by
  refine ⟨fun _ => ?_, fun h1 => by rw [hw] at h1; cases h1⟩
  unfold opDo
  simp only [hd, hr]
  exact ⟨x, hx, h⟩
theorem walkR_move {t : Tmp} {x : Operand} (hw : Region.wanted o (yielded ops a.tmps) = true) (hd : o.dst = some t) (ho : o.op = .move x) (hr : R t = none) (h : walkR P ops C G R E rest F (a.put (some t) (a.eval x))) : walkR P ops C G R E (o :: rest) F a :=
  walkR_plain hw hd hr (fun w _ _ => by rw [BigFrame.run_move x ho]; exact ⟨rfl, rfl⟩) h
theorem walkR_assign {t : Tmp} {x : Operand} (hw : Region.wanted o (yielded ops a.tmps) = true) (hd : o.dst = some t) (ho : o.op = .assign x) (hr : R t = none) (h : walkR P ops C G R E rest F (a.put (some t) (a.eval x))) : walkR P ops C G R E (o :: rest) F a :=
  walkR_plain hw hd hr (fun w _ _ => by rw [BigFrame.run_assign x ho]; exact ⟨rfl, rfl⟩) h
theorem walkR_rel {t : Tmp} {r : Value → World → Prop} (hw : Region.wanted o (yielded ops a.tmps) = true) (hd : o.dst = some t) (hr : R t = some r) (ht : t < a.tmps.size) (hx : ∀ w, C w → Leans ops R F o a w → relUpon P C G r w ((execOp a.eval o).run P w))
    (h : ∀ v, (∃ w, C w ∧ r v w) → walkR P ops C G R E rest (more F t) (a.put (some t) v)) : walkR P ops C G R E (o :: rest) F a := by
  refine ⟨fun _ => ?_, fun h1 => by rw [hw] at h1; cases h1⟩
  unfold opDo
  simp only [hd, hr]
  refine ⟨ht, hx, fun v ⟨w, hC, hK⟩ => h v ⟨w, hC, ?_⟩⟩
  have := hK t (.inl rfl) r hr
  rwa [eval_put_self a t v ht] at this
theorem Leans.get {w : World} (h : Leans ops R F o a w) (t : Tmp) (hF : F t) (hc : (o.looksAt ops).contains t = true) {r : Value → World → Prop} (hr : R t = some r) {v : Value} (hv : a.eval (.tmp t) = v) : r v w := by
  subst hv
  exact h t hF (by simpa using hc) r hr
end

/-- The table of relations. -/
def relTab : List (Nat × (Value → World → Prop)) → Tmp → Option (Value → World → Prop)
  | [], _ => none
  | (t, r) :: l, s => match Nat.beq s t with
    | true => some r
    | false => relTab l s

/-- Nothing that lies turns. -/
def Grows (w w' : World) : Prop := Below w.heap.size w w'
def GoesUp (r : Value → World → Prop) : Prop := ∀ v w w', Grows w w' → r v w → r v w'
theorem stable_nil (C : World → Prop) : Stable C Grows (relTab []) := fun s r h => by cases h
theorem stable_cons {C : World → Prop} {t : Nat} {r : Value → World → Prop} {l : List (Nat × (Value → World → Prop))} (hr : GoesUp r) (h : Stable C Grows (relTab l)) : Stable C Grows (relTab ((t, r) :: l)) := by
  intro s r' hs
  unfold relTab at hs
  split at hs
  · injection hs with hs
    subst hs
    exact fun v w w' _ _ hg hv => hr v w w' hg hv
  · exact h s r' hs

def isB (b : Bool) : Value → World → Prop := fun v _ => v = .bool b
def isForm (S : Nat → Prop) (t : Tree) : Value → World → Prop := fun v w => FormIn w S v t
def isForms (S : Nat → Prop) (ts : List Tree) : Value → World → Prop := fun v w => ∃ (a : Option Addr) (c : Nat), v = .slice a ts.length c ∧ ts.length ≤ c ∧ c ≤ maxLen ∧ FormsIn w S a ts
theorem isB_up (b : Bool) : GoesUp (isB b) := fun _ _ _ _ h => h
theorem isForm_up (S : Nat → Prop) (t : Tree) : GoesUp (isForm S t) := fun _ _ _ hg h => FormIn.go h hg
theorem isForms_up (S : Nat → Prop) (ts : List Tree) : GoesUp (isForms S ts) := fun _ _ _ hg ⟨a, c, h1, h2, h3, h4⟩ => ⟨a, c, h1, h2, h3, FormsIn.go h4 hg⟩

theorem Ext.grown {W w w' : World} (h : Ext W w) (hg : Grows w w') : Ext W w' := Below.trans h (Below.mono hg (Below.size h))
theorem Grows.alloc (w : World) (o : Obj) : Grows w (w.alloc o) := (Below.refl _ _).alloc (Nat.le_refl _) o
theorem Ext.form {W w : World} (h : Ext W w) {S : Nat → Prop} {v : Value} {t : Tree} (hf : FormIn W S v t) : FormIn w S v t := FormIn.go hf h

/-- A callee's contract, in the walk. -/
theorem rel_call {P : Program} {f : FuncId} {args : Array Value} {W w : World} {r : Value → World → Prop} (hC : Ext W w) (h : Calls P f args w fun e w' => ∃ u, e = .returned u ∧ r u w' ∧ Below w.heap.size w w') :
    Calls P f args w fun e w'' => ∃ u, e = .returned u ∧ Ext W w'' ∧ Grows w w'' ∧ r u w'' :=
  h.mono fun _ _ ⟨u, he, hr, hb⟩ => ⟨u, he, hC.grown hb, hb, hr⟩

/-- One formula laid in a row. -/
theorem isForms_one {w : World} {S : Nat → Prop} {o : Int} {s : ByteArray} {a : Option Addr} {n c : Nat} {t : Tree} (hS : S w.heap.size) (h : FormIn w S (.agg #[.int .i64 o, .string s, .slice a n c]) t) :
    isForms S [t] (.slice (some ⟨w.heap.size, 0, none⟩) 1 1) (w.alloc (.cells #[.int .i64 o, .string s, .slice a n c] 24)) :=
  ⟨_, 1, rfl, Nat.le_refl _, by unfold maxLen; omega, FormsIn.one (heap_alloc_new w _) hS (h.go (Grows.alloc w _))⟩
theorem isForms_two {w : World} {S : Nat → Prop} {o o' : Int} {s s' : ByteArray} {a a' : Option Addr} {n c n' c' : Nat} {t u : Tree} (hS : S w.heap.size) (h : FormIn w S (.agg #[.int .i64 o, .string s, .slice a n c]) t) (h' : FormIn w S (.agg #[.int .i64 o', .string s', .slice a' n' c']) u) :
    isForms S [t, u] (.slice (some ⟨w.heap.size, 0, none⟩) 2 2) (w.alloc (.cells #[.int .i64 o, .string s, .slice a n c, .int .i64 o', .string s', .slice a' n' c'] 24)) :=
  ⟨_, 2, rfl, Nat.le_refl _, by unfold maxLen; omega, FormsIn.two (heap_alloc_new w _) hS (h.go (Grows.alloc w _)) (h'.go (Grows.alloc w _))⟩
end Go.Proofs.YtilkpjcbmllgmaaDoor

namespace Go.Proofs.YtilkpjcbmllgmaaDoor
set_option linter.unusedVariables false
set_option linter.unusedSimpArgs false
open Go Go.RowKit

/-- The reader stands before this rest, and nothing has failed. -/
structure RAt (w : World) (b : Nat) (s : ByteArray) (r : Rest) : Prop where
  ex : ∃ p : Nat, p ≤ s.size ∧ skipS (s.data.toList.drop p) = r ∧ QBox w b s p (-1)
  hs : s.size ≤ 4096
/-- It has failed at the offset x. -/
structure RBad (w : World) (b : Nat) (s : ByteArray) (x : Nat) : Prop where
  ex : ∃ p : Nat, p ≤ s.size ∧ QBox w b s p (x : Int)
  hs : s.size ≤ 4096
section
variable {w w' : World} {b : Nat} {s : ByteArray} {r : Rest} {x : Nat}
theorem RAt.lt (h : RAt w b s r) : b < w.heap.size := by obtain ⟨p, _, _, hp⟩ := h.ex; exact hp.lt
theorem RBad.lt (h : RBad w b s x) : b < w.heap.size := by obtain ⟨p, _, hp⟩ := h.ex; exact hp.lt
theorem RAt.kept {row : Option Nat} (h : RAt w b s r) (hg : w.grownBy w' row) (hr : row ≠ some b) : RAt w' b s r := by
  obtain ⟨p, h1, h2, h3⟩ := h.ex
  exact ⟨⟨p, h1, h2, by unfold QBox; rw [hg.block b h3.lt (fun e => hr e.symm)]; exact h3⟩, h.hs⟩
theorem RBad.kept {row : Option Nat} (h : RBad w b s x) (hg : w.grownBy w' row) (hr : row ≠ some b) : RBad w' b s x := by
  obtain ⟨p, h1, h3⟩ := h.ex
  exact ⟨⟨p, h1, by unfold QBox; rw [hg.block b h3.lt (fun e => hr e.symm)]; exact h3⟩, h.hs⟩
theorem RAt.go (h : RAt w b s r) (hb : Below w.heap.size w w') : RAt w' b s r := h.kept (only_of_below hb none) (by simp)
theorem RBad.go (h : RBad w b s x) (hb : Below w.heap.size w w') : RBad w' b s x := h.kept (only_of_below hb none) (by simp)
theorem skip_le (l : Rest) : (skipS l).length ≤ l.length := skipS_len l
theorem RAt.len (h : RAt w b s r) : r.length ≤ s.size := by
  obtain ⟨p, h1, h2, h3⟩ := h.ex
  rw [← h2]
  have := skipS_len (s.data.toList.drop p)
  rw [List.length_drop, size_data] at this
  omega
end

theorem rest_at {s : ByteArray} {i : Nat} {r : Rest} (hi : i ≤ s.size) (h : s.data.toList.drop i = r) : i = s.size - r.length := by
  rw [← h, List.length_drop, size_data]
  omega
/-- Behind the token. -/
theorem skip_tok {s : ByteArray} {i : Nat} {r : Rest} (hi : i ≤ s.size) (h : s.data.toList.drop i = r) : skipS (s.data.toList.drop (i + (tok r).length)) = nxt r ∧ i + (tok r).length ≤ s.size := by
  have h1 := tok_len r
  constructor
  · rw [nxt, ← h, List.drop_drop]
  · have h2 : r.length = s.size - i := by rw [← h, List.length_drop, size_data]
    omega

set_option maxRecDepth 100000 in
set_option maxHeartbeats 1000000 in
theorem qtake_any (S : ByteArray) (sign : Rest) (hS : S.toList = sign) (hn : S.size = sign.length) (h0 : sign ≠ []) (h63 : sign ≠ [63]) (b : Nat) (s : ByteArray) (r : Rest) (w : World) (h : RAt w b s r) :
    Calls Tryd.prog 62 #[.pointer (some ⟨b, 0, none⟩), .string S] w fun e w' => e = .returned (.bool (decide (tok r = sign))) ∧ (tok r = sign → RAt w' b s (nxt r)) ∧ (¬ tok r = sign → RAt w' b s r) ∧ w.grownBy w' (some b) := by
  obtain ⟨p, hp, hsk, hbox⟩ := h.ex
  have hs4 := h.hs
  have HB := hidIt hbox
  have H := hidIt h
  have hlt := hbox.lt
  have HSK := hidIt hsk
  clear hbox hsk h
  go_enter Tryd.func62, Tryd.ntmps62
  go_wp2_with fail
  refine (qtoken_any s (by omega) p hp (-1) b w HB.out).mono ?_
  rintro e w1 ⟨i, rfl, hi, hdi, hb1⟩
  have hdr : s.data.toList.drop i = r := hdi.trans HSK.out
  have HB1 := hidIt (HB.out.go hb1)
  have HG1 : Hid (w.grownBy w1 (some b)) := only_of_below hb1 _
  have HR1 := hidIt (H.out.go hb1)
  have HDR := hidIt hdr
  rw [hdr]
  clear hb1 hdi hdr
  obtain ⟨c0, c1, c2⟩ := HB1.out.cells
  have f1 := HB1.out.free 1
  have hlt1 := HB1.out.lt
  obtain ⟨X, hX⟩ : ∃ X : ByteArray, X = ⟨(rtk r).toArray⟩ := ⟨_, rfl⟩
  have hXl : Hid (X.toList = rtk r) := by show _ = _; rw [hX, Lib.toList_data]
  rw [← hX]
  clear hX
  have HEQ := hidIt (rtk_eq (r := r) h0 h63)
  have HSS := hidIt hS
  have HNN := hidIt hn
  clear hS hn
  by_cases ht : tok r = sign
  · have hq : (X.toList == S.toList) = true := by rw [hXl.out, HSS.out, HEQ.out.2 ht]; exact beq_self_eq_true _
    obtain ⟨h1, h2⟩ := skip_tok hi HDR.out
    rw [ht, ← HNN.out] at h1 h2
    have HN := hidIt h1
    have hw : IntKind.i64.wrap ((i : Int) + (S.size : Int)) = ((i + S.size : Nat) : Int) := by rw [IntWalk.i64_in _ (by omega)]; omega
    have HT := hidIt ht
    clear h1 ht
    go_wp2_with fail
    go_ret
    refine ⟨by rw [HT.out]; simp, fun _ => ⟨⟨i + S.size, h2, HN.out, by have := HB1.out.set1 (i + S.size); rw [Int.natCast_add] at this; exact this⟩, hs4⟩, fun h => absurd HT.out h, only_setCell HG1.out (.inl rfl) _⟩
  · have hq : (X.toList == S.toList) = false := by rw [beq_eq_false_iff_ne, hXl.out, HSS.out]; exact fun e => ht (HEQ.out.1 e)
    have HT := hidIt ht
    clear ht
    go_wp2_with fail
    go_ret
    exact ⟨ret_bool (decide_eq_false HT.out).symm, fun h => absurd h HT.out, fun _ => HR1.out, HG1.out⟩

set_option maxRecDepth 100000 in
set_option maxHeartbeats 1000000 in
theorem qtakeB_any (S : ByteArray) (b : Nat) (s : ByteArray) (x : Nat) (w : World) (h : RBad w b s x) :
    Calls Tryd.prog 62 #[.pointer (some ⟨b, 0, none⟩), .string S] w fun e w' => e = .returned (.bool false) ∧ RBad w' b s x ∧ Below w.heap.size w w' := by
  obtain ⟨p, hp, hbox⟩ := h.ex
  have hs4 := h.hs
  have HB := hidIt hbox
  have H := hidIt h
  have hlt := hbox.lt
  clear hbox h
  go_enter Tryd.func62, Tryd.ntmps62
  go_wp2_with fail
  refine (qtoken_any s (by omega) p hp _ b w HB.out).mono ?_
  rintro e w1 ⟨i, rfl, hi, hdi, hb1⟩
  have HB1 := hidIt (HB.out.go hb1)
  have HBW := hidIt hb1
  have HR1 := hidIt (H.out.go hb1)
  clear hb1 hdi
  obtain ⟨c0, c1, c2⟩ := HB1.out.cells
  have hlt1 := HB1.out.lt
  have hx0 : (0 : Int) ≤ (x : Int) := by omega
  obtain ⟨X, hX⟩ : ∃ X : ByteArray, X = ⟨(rtk (s.data.toList.drop i)).toArray⟩ := ⟨_, rfl⟩
  rw [← hX]
  clear hX
  cases hq : (X.toList == S.toList)
  · go_wp2_with fail
    go_ret
    exact ⟨rfl, HR1.out, HBW.out⟩
  · go_wp2_with fail
    go_ret
    exact ⟨rfl, HR1.out, HBW.out⟩

set_option maxRecDepth 100000 in
set_option maxHeartbeats 1000000 in
theorem qfail_any (b : Nat) (s : ByteArray) (r : Rest) (w : World) (h : RAt w b s r) :
    Calls Tryd.prog 44 #[.pointer (some ⟨b, 0, none⟩)] w fun e w' => e = .returned (.agg #[.int .i64 0, .string ⟨#[]⟩, .slice none 0 0]) ∧ RBad w' b s (s.size - r.length) ∧ w.grownBy w' (some b) := by
  obtain ⟨p, hp, hsk, hbox⟩ := h.ex
  have hs4 := h.hs
  have hlt := hbox.lt
  have HB : Hid (QBox (w.alloc (.cells #[.int .i64 0, .string ⟨#[]⟩, .slice none 0 0] 24)) b s p (-1)) := hbox.go (Grows.alloc _ _)
  have HK := hidIt (heap_alloc_new w (.cells #[.int .i64 0, .string ⟨#[]⟩, .slice none 0 0] 24))
  have HG : Hid (w.grownBy (w.alloc (.cells #[.int .i64 0, .string ⟨#[]⟩, .slice none 0 0] 24)) (some b)) := only_alloc (only_refl _ _) _
  have HSK := hidIt hsk
  have hpb : w.heap.size ≠ b := by omega
  clear hbox hsk h
  obtain ⟨c0, c1, c2⟩ := HB.out.cells
  have hlt0 := HB.out.lt
  go_enter Tryd.func44, Tryd.ntmps44
  go_wp2_with fail
  generalize (w.alloc (.cells #[.int .i64 0, .string ⟨#[]⟩, .slice none 0 0] 24)) = w0 at *
  refine (qtoken_any s (by omega) p hp (-1) b w0 HB.out).mono ?_
  rintro e w1 ⟨i, rfl, hi, hdi, hb1⟩
  have hir := rest_at hi (hdi.trans HSK.out)
  have HB1 := hidIt (HB.out.go hb1)
  have HG1 := hidIt (only_trans HG.out (only_of_below hb1 (some b)))
  have HK1 := hidIt (blk_kept HK.out hb1)
  clear hb1 hdi c0 c1 c2 hlt0
  obtain ⟨c0, c1, c2⟩ := HB1.out.cells
  have f2 := HB1.out.free 2
  have hlt1 := HB1.out.lt
  obtain ⟨X, hX⟩ : ∃ X : ByteArray, X = ⟨(rtk (s.data.toList.drop i)).toArray⟩ := ⟨_, rfl⟩
  rw [← hX]
  clear hX
  have HIR := hidIt hir
  have HS := hidIt (HB1.out.set2 (i : Int))
  have HG2 : Hid (w.grownBy (w1.setCell ⟨b, 2, none⟩ (.int .i64 (i : Int))) (some b)) := only_setCell HG1.out (.inl rfl) _
  have HK2 : Hid ((w1.setCell ⟨b, 2, none⟩ (.int .i64 (i : Int))).heap[w.heap.size]? = some (.cells #[.int .i64 0, .string ⟨#[]⟩, .slice none 0 0] 24 (0, 0))) := own_kept HK1.out (only_setCell (p := ⟨b, 2, none⟩) (only_refl w1 (some b)) (.inl rfl) _) hpb
  obtain ⟨r0, r1, r2⟩ := cell_of3 HK2.out
  obtain ⟨g0, g1, g2⟩ := cells_free HK2.out
  have hlr := lt_of_block HK2.out
  clear hir
  go_wp2_with fail
  refine bodyPost_ret (v := .agg #[.int .i64 0, .string ⟨#[]⟩, .slice none 0 0]) (by simp [results, Tryd.results44, go_sem, r0, r1, r2, hlr]) rfl ?_
  have h3 := set_three (w1.setCell ⟨b, 2, none⟩ (.int .i64 (i : Int))) w.heap.size (.int .i64 0) (.string ⟨#[]⟩) (.slice none 0 0)
  refine ⟨rfl, ?_, only_new HG2.out h3 (Nat.le_refl _)⟩
  exact RBad.kept ⟨⟨p, hp, by rw [← HIR.out]; exact HS.out⟩, hs4⟩ h3 (fun e => by injection e with e; omega)
end Go.Proofs.YtilkpjcbmllgmaaDoor

namespace Go.Proofs.YtilkpjcbmllgmaaDoor
set_option linter.unusedVariables false
set_option linter.unusedSimpArgs false
open Go Go.RowKit

/-- What the reader's state is behind a part. -/
structure RSt (w : World) (b : Nat) (s : ByteArray) (t : Tree) (res : Option Tree × Rest) : Prop where
  yes : ∀ f, res.1 = some f → t = f ∧ RAt w b s res.2
  no : res.1 = none → RBad w b s (s.size - res.2.length)
def RPost (w : World) (b : Nat) (s : ByteArray) (res : Option Tree × Rest) (e : Ending) (w' : World) : Prop :=
  ∃ (t : Tree) (o : Int) (sn : ByteArray) (a : Option Addr) (n c : Nat), e = .returned (.agg #[.int .i64 o, .string sn, .slice a n c]) ∧ FormIn w' (fun i => w.heap.size ≤ i) (.agg #[.int .i64 o, .string sn, .slice a n c]) t ∧ w.grownBy w' (some b) ∧ RSt w' b s t res
def ROk (f : FuncId) (SP : Rest → Option Tree × Rest) (r : Rest) : Prop := ∀ (w : World) (b : Nat) (s : ByteArray), RAt w b s r → Calls Tryd.prog f #[.pointer (some ⟨b, 0, none⟩)] w (RPost w b s (SP r))

theorem RSt.kept {w w' : World} {b : Nat} {s : ByteArray} {t : Tree} {res : Option Tree × Rest} {row : Option Nat} (h : RSt w b s t res) (hg : w.grownBy w' row) (hr : row ≠ some b) : RSt w' b s t res :=
  ⟨fun f hf => ⟨(h.yes f hf).1, (h.yes f hf).2.kept hg hr⟩, fun hn => (h.no hn).kept hg hr⟩

theorem both_post {w w2 w3 : World} {b : Nat} {s : ByteArray} {op o1 o3 : Int} {n1 n3 : ByteArray} {a1 a3 : Option Addr} {k1 k3 c1 c3 : Nat} {t1 t3 : Tree} {res res3 : Option Tree × Rest}
    (HG : w.grownBy w2 (some b)) (hsz : w.heap.size + 1 ≤ w2.heap.size) (hbw : b < w.heap.size) (hF : FormIn w2 (fun i => w.heap.size + 1 ≤ i) (.agg #[.int .i64 o1, .string n1, .slice a1 k1 c1]) t1)
    (hf3 : FormIn w3 (fun i => w2.heap.size ≤ i) (.agg #[.int .i64 o3, .string n3, .slice a3 k3 c3]) t3) (hg3 : w2.grownBy w3 (some b)) (hst : RSt w3 b s t3 res3) (hres : res = bothP op t1 res3) (hop : I64 op) :
    RPost w b s res (.returned (.agg #[.int .i64 op, .string ⟨#[]⟩, .slice (some ⟨w3.heap.size, 0, none⟩) 2 2]))
      ((((w3.alloc (.cells #[.int .i64 o1, .string n1, .slice a1 k1 c1, .int .i64 o3, .string n3, .slice a3 k3 c3] 24)).setCell ⟨w.heap.size, 0, none⟩ (.int .i64 op)).setCell ⟨w.heap.size, 1, none⟩ (.string ⟨#[]⟩)).setCell ⟨w.heap.size, 2, none⟩ (.slice (some ⟨w3.heap.size, 0, none⟩) 2 2)) := by
  have ha : w3.grownBy (w3.alloc (.cells #[.int .i64 o1, .string n1, .slice a1 k1 c1, .int .i64 o3, .string n3, .slice a3 k3 c3] 24)) none := only_alloc (only_refl _ _) _
  have hb := Grows.alloc w3 (.cells #[.int .i64 o1, .string n1, .slice a1 k1 c1, .int .i64 o3, .string n3, .slice a3 k3 c3] 24)
  have hk := heap_alloc_new w3 (.cells #[.int .i64 o1, .string n1, .slice a1 k1 c1, .int .i64 o3, .string n3, .slice a3 k3 c3] 24)
  have hs3 := hg3.size
  have hF3 := FormIn.go (hF.over (w1 := w) hg3 (by omega)) hb
  have hf3' := FormIn.go (hf3.mono (S' := fun i => w.heap.size + 1 ≤ i) fun i _ hi => by omega) hb
  have hst' := hst.kept ha (by simp)
  have hG : w.grownBy (w3.alloc (.cells #[.int .i64 o1, .string n1, .slice a1 k1 c1, .int .i64 o3, .string n3, .slice a3 k3 c3] 24)) (some b) := only_alloc (only_trans HG hg3) _
  generalize (w3.alloc (.cells #[.int .i64 o1, .string n1, .slice a1 k1 c1, .int .i64 o3, .string n3, .slice a3 k3 c3] 24)) = W at *
  have h3 := set_three W w.heap.size (.int .i64 op) (.string ⟨#[]⟩) (.slice (some ⟨w3.heap.size, 0, none⟩) 2 2)
  have hfs : FormsIn W (fun i => w.heap.size + 1 ≤ i) (some ⟨w3.heap.size, 0, none⟩) [t1, t3] := FormsIn.two hk (by omega) hF3 hf3'
  have hfm : FormIn W (fun i => w.heap.size + 1 ≤ i) (.agg #[.int .i64 op, .string ⟨#[]⟩, .slice (some ⟨w3.heap.size, 0, none⟩) 2 2]) (.node op ⟨#[]⟩ [t1, t3]) := FormIn.mk hfs rfl hop nil_le (Nat.le_refl _) (by unfold maxLen; omega)
  refine ⟨.node op ⟨#[]⟩ [t1, t3], _, _, _, _, _, rfl, (hfm.over (w1 := w) h3 (by omega)).mono (fun i _ hi => by omega), only_new hG h3 (Nat.le_refl _), ?_⟩
  have hst2 := hst'.kept h3 (fun e => by injection e with e; omega)
  obtain ⟨o, r2⟩ := res3
  subst hres
  cases o with
  | none => exact ⟨fun f hf => (by cases hf), fun _ => hst2.no rfl⟩
  | some g =>
    obtain ⟨e, hat⟩ := hst2.yes g rfl
    subst e
    exact ⟨fun f hf => ⟨Option.some.inj hf, hat⟩, fun hn => (by cases hn)⟩

set_option maxRecDepth 100000 in
set_option maxHeartbeats 1000000 in
theorem qimpl_walk (n : Nat) (r : Rest) (h0 : ROk 78 (pF n 2) r) (h1 : ∀ r', r'.length < r.length → ROk 61 (pF n 1) r') : ROk 61 (pF (n + 1) 1) r := by
  intro w b s h
  have hlt := h.lt
  have HE : Hid (pF (n + 1) 1 r = pairP 7 [45, 62] (pF n 2) (pF n 1) r) := rfl
  have HC : Hid (Calls Tryd.prog 78 #[.pointer (some ⟨b, 0, none⟩)] (w.alloc (.cells #[.int .i64 0, .string ⟨#[]⟩, .slice none 0 0] 24)) (RPost (w.alloc (.cells #[.int .i64 0, .string ⟨#[]⟩, .slice none 0 0] 24)) b s (pF n 2 r))) := h0 _ b s (h.go (Grows.alloc _ _))
  have HP := hidIt h1
  have HK := hidIt (heap_alloc_new w (.cells #[.int .i64 0, .string ⟨#[]⟩, .slice none 0 0] 24))
  have HSH : Hid ((pF n 2 r).2.length ≤ r.length) := pF_len n 2 r
  clear h h0 h1
  go_enter Tryd.func61, Tryd.ntmps61
  go_wp2_with fail
  refine HC.out.mono ?_
  rintro e w1 ⟨t1, o1, n1, a1, k1, c1, rfl, hf1, hg1, hst1⟩
  cases hres : pF n 2 r with
  | mk ores r1 =>
  rw [hres] at hst1 HSH
  have HRES := hidIt hres
  have hgb : w1.grownBy (w1.alloc (.cells #[.int .i64 o1, .string n1, .slice a1 k1 c1] 24)) none := only_alloc (only_refl _ _) _
  have HST1 := hidIt (hst1.kept hgb (by simp))
  have HF1 := hidIt (FormIn.go hf1 (Grows.alloc w1 (.cells #[.int .i64 o1, .string n1, .slice a1 k1 c1] 24)))
  have HG1 : Hid (w.grownBy (w1.alloc (.cells #[.int .i64 o1, .string n1, .slice a1 k1 c1] 24)) (some b)) := only_alloc (only_trans (only_alloc (only_refl _ _) _) hg1) _
  have HK1 := hidIt (blk_kept (own_kept HK.out hg1 (by omega)) (Grows.alloc w1 (.cells #[.int .i64 o1, .string n1, .slice a1 k1 c1] 24)))
  have HP1 := hidIt (heap_alloc_new w1 (.cells #[.int .i64 o1, .string n1, .slice a1 k1 c1] 24))
  have hsz1 : w.heap.size < w1.heap.size := lt_of_block (own_kept HK.out hg1 (by omega))
  have hb1 : b < w1.heap.size := by omega
  clear hf1 hg1 hst1 hres hgb HK HC
  go_wp2_with fail
  generalize hWa : (w1.alloc (.cells #[.int .i64 o1, .string n1, .slice a1 k1 c1] 24)) = wa at *
  have hwa : wa.heap.size = w1.heap.size + 1 := by rw [← hWa]; simp
  clear hWa
  generalize hPe : w1.heap.size = P at *
  have hFM : Hid (FormIn wa (fun i => w.heap.size + 1 ≤ i) (.agg #[.int .i64 o1, .string n1, .slice a1 k1 c1]) t1) := HF1.out.mono fun i _ hi => by simpa using hi
  clear HF1
  cases ores with
  | none =>
    have HB1 := hidIt (HST1.out.no rfl)
    have HEN : Hid (pF (n + 1) 1 r = (none, r1)) := by show _ = _; rw [HE.out, pairP_none HRES.out]
    refine (qtakeB_any ⟨#[45, 62]⟩ b s _ wa HB1.out).mono ?_
    rintro e w2 ⟨rfl, hbad2, hb2⟩
    have HBAD2 := hidIt hbad2
    have HG2 := hidIt (only_trans HG1.out (only_of_below hb2 (some b)))
    have HK2 := hidIt (blk_kept HK1.out hb2)
    have HP2 := hidIt (blk_kept HP1.out hb2)
    have HF2 := hidIt (FormIn.go hFM.out hb2)
    clear hbad2 hb2 HK1 HP1 HG1 hFM
    obtain ⟨r0, r1', r2⟩ := cell_of3 HK2.out
    obtain ⟨g0, g1, g2⟩ := cells_free HK2.out
    have hlr := lt_of_block HK2.out
    obtain ⟨p0, p1, p2⟩ := cell_of3 HP2.out
    have hlp := lt_of_block HP2.out
    go_wp2_with fail
    refine bodyPost_ret (v := .agg #[.int .i64 o1, .string n1, .slice a1 k1 c1]) (by simp [results, Tryd.results61, go_sem, r0, r1', r2, hlr]) rfl ?_
    have h3 := set_three w2 w.heap.size (.int .i64 o1) (.string n1) (.slice a1 k1 c1)
    refine ⟨t1, _, _, _, _, _, rfl, (HF2.out.over (w1 := w) h3 (by omega)).mono (fun i _ hi => by omega), only_new HG2.out h3 (Nat.le_refl _), ?_, ?_⟩
    · intro f hf; rw [HEN.out] at hf; cases hf
    · intro _; rw [HEN.out]; exact HBAD2.out.kept h3 (fun e => by injection e with e; omega)
  | some f =>
    obtain ⟨rfl, hat⟩ := HST1.out.yes f rfl
    have HAT := hidIt hat
    clear hat HST1
    refine (qtake_any ⟨#[45, 62]⟩ [45, 62] (by rw [Lib.toList_data]) rfl (by simp) (by simp) b s r1 wa HAT.out).mono ?_
    rintro e w2 ⟨rfl, hyes, hno, hg2⟩
    have HG2 := hidIt (only_trans HG1.out hg2)
    have HK2 := hidIt (own_kept HK1.out hg2 (by omega))
    have HP2 := hidIt (own_kept HP1.out hg2 (by omega))
    have HF2 := hidIt (hFM.out.over (w1 := w) hg2 (by omega))
    clear hg2 HK1 HP1 HG1 hFM
    obtain ⟨r0, r1', r2⟩ := cell_of3 HK2.out
    obtain ⟨g0, g1, g2⟩ := cells_free HK2.out
    have hlr := lt_of_block HK2.out
    obtain ⟨p0, p1, p2⟩ := cell_of3 HP2.out
    have hlp := lt_of_block HP2.out
    by_cases ht : tok r1 = [45, 62]
    · have HA2 := hidIt (hyes ht)
      have hlen : (nxt r1).length < r.length := Nat.lt_of_lt_of_le (nxt_lt (by decide) ht) HSH.out
      have HEB : Hid (pF (n + 1) 1 r = bothP 7 t1 (pF n 1 (nxt r1))) := by show _ = _; rw [HE.out, pairP_both HRES.out ht]
      have HCI := hidIt (fun W hW => HP.out (nxt r1) hlen W b s hW)
      rw [decide_eq_true ht]
      clear hyes hno ht
      go_wp2_with fail
      have HAD : Hid (RAt w2.drew b s (nxt r1)) := HA2.out.go (Below.refl _ _).drew
      have HPD := hidIt (blk_kept HP2.out (Below.refl _ _).drew)
      have HKD := hidIt (blk_kept HK2.out (Below.refl _ _).drew)
      have HFD : Hid (FormIn w2.drew (fun i => w.heap.size + 1 ≤ i) (.agg #[.int .i64 o1, .string n1, .slice a1 k1 c1]) t1) := FormIn.go HF2.out (Below.refl _ _).drew
      have HGD : Hid (w.grownBy w2.drew (some b)) := only_trans HG2.out (only_of_below (Below.refl _ _).drew (some b))
      have hszD : w.heap.size + 1 ≤ w2.drew.heap.size := lt_of_block HKD.out
      have hPb : P ≠ b := by omega
      have hRb : w.heap.size ≠ b := by omega
      go_region_law (
        (go_simp; go_at_call 61; refine (HCI.out _ HAD.out).mono ?_; rintro e w3 ⟨t3, o3, n3, a3, k3, c3, rfl, hf3, hg3, hst3⟩; have hR3 := blk_kept (own_kept HKD.out hg3 hRb) (Grows.alloc w3 (.cells #[.int .i64 o1, .string n1, .slice a1 k1 c1, .int .i64 o3, .string n3, .slice a3 k3 c3] 24)); obtain ⟨q0, q1, q2⟩ := cell_of3 (own_kept HPD.out hg3 hPb); have hlq := lt_of_block (own_kept HPD.out hg3 hPb); obtain ⟨s0, s1, s2⟩ := cell_of3 hR3; obtain ⟨y0, y1, y2⟩ := cells_free hR3; have hls := lt_of_block hR3))
      all_goals
        go_wp2_with fail
        refine bodyPost_ret (v := .agg #[.int .i64 7, .string ⟨#[]⟩, .slice (some ⟨w3.heap.size, 0, none⟩) 2 2]) (by simp [results, Tryd.results61, go_sem, s0, s1, s2, hls]) rfl ?_
        exact both_post HGD.out hszD hlt HFD.out hf3 hg3 hst3 HEB.out (i64_small (by omega) (by omega))
    · have HA2 := hidIt (hno ht)
      have HEL : Hid (pF (n + 1) 1 r = (some t1, r1)) := by show _ = _; rw [HE.out, pairP_left HRES.out ht]
      rw [decide_eq_false ht]
      clear hyes hno ht
      go_wp2_with fail
      refine bodyPost_ret (v := .agg #[.int .i64 o1, .string n1, .slice a1 k1 c1]) (by simp [results, Tryd.results61, go_sem, r0, r1', r2, hlr]) rfl ?_
      have h3 := set_three w2 w.heap.size (.int .i64 o1) (.string n1) (.slice a1 k1 c1)
      refine ⟨t1, _, _, _, _, _, rfl, (HF2.out.over (w1 := w) h3 (by omega)).mono (fun i _ hi => by omega), only_new HG2.out h3 (Nat.le_refl _), ?_, ?_⟩
      · intro f hf
        rw [HEL.out] at hf ⊢
        exact ⟨Option.some.inj hf, HA2.out.kept h3 (fun e => by injection e with e; omega)⟩
      · intro hn; rw [HEL.out] at hn; cases hn

set_option maxRecDepth 100000 in
set_option maxHeartbeats 1000000 in
theorem qiff_walk (n : Nat) (r : Rest) (h0 : ROk 61 (pF n 1) r) (h1 : ∀ r', r'.length < r.length → ROk 61 (pF n 1) r') : ROk 42 (pF (n + 1) 0) r := by
  intro w b s h
  have hlt := h.lt
  have HE : Hid (pF (n + 1) 0 r = pairP 8 [60, 45, 62] (pF n 1) (pF n 1) r) := rfl
  have HC : Hid (Calls Tryd.prog 61 #[.pointer (some ⟨b, 0, none⟩)] (w.alloc (.cells #[.int .i64 0, .string ⟨#[]⟩, .slice none 0 0] 24)) (RPost (w.alloc (.cells #[.int .i64 0, .string ⟨#[]⟩, .slice none 0 0] 24)) b s (pF n 1 r))) := h0 _ b s (h.go (Grows.alloc _ _))
  have HP := hidIt h1
  have HK := hidIt (heap_alloc_new w (.cells #[.int .i64 0, .string ⟨#[]⟩, .slice none 0 0] 24))
  have HSH : Hid ((pF n 1 r).2.length ≤ r.length) := pF_len n 1 r
  clear h h0 h1
  go_enter Tryd.func42, Tryd.ntmps42
  go_wp2_with fail
  refine HC.out.mono ?_
  rintro e w1 ⟨t1, o1, n1, a1, k1, c1, rfl, hf1, hg1, hst1⟩
  cases hres : pF n 1 r with
  | mk ores r1 =>
  rw [hres] at hst1 HSH
  have HRES := hidIt hres
  have hgb : w1.grownBy (w1.alloc (.cells #[.int .i64 o1, .string n1, .slice a1 k1 c1] 24)) none := only_alloc (only_refl _ _) _
  have HST1 := hidIt (hst1.kept hgb (by simp))
  have HF1 := hidIt (FormIn.go hf1 (Grows.alloc w1 (.cells #[.int .i64 o1, .string n1, .slice a1 k1 c1] 24)))
  have HG1 : Hid (w.grownBy (w1.alloc (.cells #[.int .i64 o1, .string n1, .slice a1 k1 c1] 24)) (some b)) := only_alloc (only_trans (only_alloc (only_refl _ _) _) hg1) _
  have HK1 := hidIt (blk_kept (own_kept HK.out hg1 (by omega)) (Grows.alloc w1 (.cells #[.int .i64 o1, .string n1, .slice a1 k1 c1] 24)))
  have HP1 := hidIt (heap_alloc_new w1 (.cells #[.int .i64 o1, .string n1, .slice a1 k1 c1] 24))
  have hsz1 : w.heap.size < w1.heap.size := lt_of_block (own_kept HK.out hg1 (by omega))
  have hb1 : b < w1.heap.size := by omega
  clear hf1 hg1 hst1 hres hgb HK HC
  go_wp2_with fail
  generalize hWa : (w1.alloc (.cells #[.int .i64 o1, .string n1, .slice a1 k1 c1] 24)) = wa at *
  have hwa : wa.heap.size = w1.heap.size + 1 := by rw [← hWa]; simp
  clear hWa
  generalize hPe : w1.heap.size = P at *
  have hFM : Hid (FormIn wa (fun i => w.heap.size + 1 ≤ i) (.agg #[.int .i64 o1, .string n1, .slice a1 k1 c1]) t1) := HF1.out.mono fun i _ hi => by simpa using hi
  clear HF1
  cases ores with
  | none =>
    have HB1 := hidIt (HST1.out.no rfl)
    have HEN : Hid (pF (n + 1) 0 r = (none, r1)) := by show _ = _; rw [HE.out, pairP_none HRES.out]
    refine (qtakeB_any ⟨#[60, 45, 62]⟩ b s _ wa HB1.out).mono ?_
    rintro e w2 ⟨rfl, hbad2, hb2⟩
    have HBAD2 := hidIt hbad2
    have HG2 := hidIt (only_trans HG1.out (only_of_below hb2 (some b)))
    have HK2 := hidIt (blk_kept HK1.out hb2)
    have HP2 := hidIt (blk_kept HP1.out hb2)
    have HF2 := hidIt (FormIn.go hFM.out hb2)
    clear hbad2 hb2 HK1 HP1 HG1 hFM
    obtain ⟨r0, r1', r2⟩ := cell_of3 HK2.out
    obtain ⟨g0, g1, g2⟩ := cells_free HK2.out
    have hlr := lt_of_block HK2.out
    obtain ⟨p0, p1, p2⟩ := cell_of3 HP2.out
    have hlp := lt_of_block HP2.out
    go_wp2_with fail
    refine bodyPost_ret (v := .agg #[.int .i64 o1, .string n1, .slice a1 k1 c1]) (by simp [results, Tryd.results42, go_sem, r0, r1', r2, hlr]) rfl ?_
    have h3 := set_three w2 w.heap.size (.int .i64 o1) (.string n1) (.slice a1 k1 c1)
    refine ⟨t1, _, _, _, _, _, rfl, (HF2.out.over (w1 := w) h3 (by omega)).mono (fun i _ hi => by omega), only_new HG2.out h3 (Nat.le_refl _), ?_, ?_⟩
    · intro f hf; rw [HEN.out] at hf; cases hf
    · intro _; rw [HEN.out]; exact HBAD2.out.kept h3 (fun e => by injection e with e; omega)
  | some f =>
    obtain ⟨rfl, hat⟩ := HST1.out.yes f rfl
    have HAT := hidIt hat
    clear hat HST1
    refine (qtake_any ⟨#[60, 45, 62]⟩ [60, 45, 62] (by rw [Lib.toList_data]) rfl (by simp) (by simp) b s r1 wa HAT.out).mono ?_
    rintro e w2 ⟨rfl, hyes, hno, hg2⟩
    have HG2 := hidIt (only_trans HG1.out hg2)
    have HK2 := hidIt (own_kept HK1.out hg2 (by omega))
    have HP2 := hidIt (own_kept HP1.out hg2 (by omega))
    have HF2 := hidIt (hFM.out.over (w1 := w) hg2 (by omega))
    clear hg2 HK1 HP1 HG1 hFM
    obtain ⟨r0, r1', r2⟩ := cell_of3 HK2.out
    obtain ⟨g0, g1, g2⟩ := cells_free HK2.out
    have hlr := lt_of_block HK2.out
    obtain ⟨p0, p1, p2⟩ := cell_of3 HP2.out
    have hlp := lt_of_block HP2.out
    by_cases ht : tok r1 = [60, 45, 62]
    · have HA2 := hidIt (hyes ht)
      have hlen : (nxt r1).length < r.length := Nat.lt_of_lt_of_le (nxt_lt (by decide) ht) HSH.out
      have HEB : Hid (pF (n + 1) 0 r = bothP 8 t1 (pF n 1 (nxt r1))) := by show _ = _; rw [HE.out, pairP_both HRES.out ht]
      have HCI := hidIt (fun W hW => HP.out (nxt r1) hlen W b s hW)
      rw [decide_eq_true ht]
      clear hyes hno ht
      go_wp2_with fail
      have HAD : Hid (RAt w2.drew b s (nxt r1)) := HA2.out.go (Below.refl _ _).drew
      have HPD := hidIt (blk_kept HP2.out (Below.refl _ _).drew)
      have HKD := hidIt (blk_kept HK2.out (Below.refl _ _).drew)
      have HFD : Hid (FormIn w2.drew (fun i => w.heap.size + 1 ≤ i) (.agg #[.int .i64 o1, .string n1, .slice a1 k1 c1]) t1) := FormIn.go HF2.out (Below.refl _ _).drew
      have HGD : Hid (w.grownBy w2.drew (some b)) := only_trans HG2.out (only_of_below (Below.refl _ _).drew (some b))
      have hszD : w.heap.size + 1 ≤ w2.drew.heap.size := lt_of_block HKD.out
      have hPb : P ≠ b := by omega
      have hRb : w.heap.size ≠ b := by omega
      go_region_law (
        (go_simp; go_at_call 61; refine (HCI.out _ HAD.out).mono ?_; rintro e w3 ⟨t3, o3, n3, a3, k3, c3, rfl, hf3, hg3, hst3⟩; have hR3 := blk_kept (own_kept HKD.out hg3 hRb) (Grows.alloc w3 (.cells #[.int .i64 o1, .string n1, .slice a1 k1 c1, .int .i64 o3, .string n3, .slice a3 k3 c3] 24)); obtain ⟨q0, q1, q2⟩ := cell_of3 (own_kept HPD.out hg3 hPb); have hlq := lt_of_block (own_kept HPD.out hg3 hPb); obtain ⟨s0, s1, s2⟩ := cell_of3 hR3; obtain ⟨y0, y1, y2⟩ := cells_free hR3; have hls := lt_of_block hR3))
      all_goals
        go_wp2_with fail
        refine bodyPost_ret (v := .agg #[.int .i64 8, .string ⟨#[]⟩, .slice (some ⟨w3.heap.size, 0, none⟩) 2 2]) (by simp [results, Tryd.results42, go_sem, s0, s1, s2, hls]) rfl ?_
        exact both_post HGD.out hszD hlt HFD.out hf3 hg3 hst3 HEB.out (i64_small (by omega) (by omega))
    · have HA2 := hidIt (hno ht)
      have HEL : Hid (pF (n + 1) 0 r = (some t1, r1)) := by show _ = _; rw [HE.out, pairP_left HRES.out ht]
      rw [decide_eq_false ht]
      clear hyes hno ht
      go_wp2_with fail
      refine bodyPost_ret (v := .agg #[.int .i64 o1, .string n1, .slice a1 k1 c1]) (by simp [results, Tryd.results42, go_sem, r0, r1', r2, hlr]) rfl ?_
      have h3 := set_three w2 w.heap.size (.int .i64 o1) (.string n1) (.slice a1 k1 c1)
      refine ⟨t1, _, _, _, _, _, rfl, (HF2.out.over (w1 := w) h3 (by omega)).mono (fun i _ hi => by omega), only_new HG2.out h3 (Nat.le_refl _), ?_, ?_⟩
      · intro f hf
        rw [HEL.out] at hf ⊢
        exact ⟨Option.some.inj hf, HA2.out.kept h3 (fun e => by injection e with e; omega)⟩
      · intro hn; rw [HEL.out] at hn; cases hn
end Go.Proofs.YtilkpjcbmllgmaaDoor

namespace Go.Proofs.YtilkpjcbmllgmaaDoor
set_option linter.unusedVariables false
set_option linter.unusedSimpArgs false
open Go.RowKit

def zeroT : Tree := .node 0 ⟨#[]⟩ []

/-- What is left, and what was read of a text that is not too long. -/
def readT (s : ByteArray) : Option Tree × Rest := pF (8 * (skipS s.data.toList).length + 7) 0 (skipS s.data.toList)

/-- What Parse makes of what was read. -/
def judge (n : Nat) : Option Tree × Rest → Tree × Nat × Int
  | (some f, r) => if r.length = 0 then (if valE f = 0 then (f, 0, 0) else (zeroT, 0, 2)) else (zeroT, n - r.length, 3)
  | (none, r) => (zeroT, n - r.length, 3)

/-- What Parse answers: the formula, the offset, the error. -/
def parseT (s : ByteArray) : Tree × Nat × Int := if 4096 < s.size then (zeroT, 0, 2) else judge s.size (readT s)

theorem zero_form (w : World) (S : Nat → Prop) : FormIn w S (.agg #[.int .i64 0, .string ⟨#[]⟩, .slice none 0 0]) zeroT :=
  FormIn.mk (FormsIn.nil none) rfl (by unfold I64; omega) nil_le (Nat.le_refl _) (Nat.zero_le _)

def ParsePost (w : World) (s : ByteArray) (e : Ending) (w' : World) : Prop :=
  ∃ (op : Int) (nm : ByteArray) (a : Option Addr) (n c : Nat), e = .returned (.tuple #[.agg #[.int .i64 op, .string nm, .slice a n c], .int .i64 ((parseT s).2.1 : Nat), .int .i64 (parseT s).2.2]) ∧
    FormIn w' (fun i => w.heap.size ≤ i) (.agg #[.int .i64 op, .string nm, .slice a n c]) (parseT s).1 ∧ Below w.heap.size w w'

theorem valE_range' (t : Tree) : valE t = 0 ∨ valE t = 2 ∨ valE t = 3 ∨ valE t = 4 := by
  unfold valE
  repeat' split
  all_goals simp

theorem below_of_only {w w' : World} {b : Nat} (h : w.grownBy w' (some b)) (hb : w.heap.size ≤ b) : Below w.heap.size w w' :=
  ⟨h.os, h.tape, h.output, h.size, fun i hi => h.block i hi (fun e => by injection e with e; omega)⟩

theorem PAt.at {w : World} {b : Nat} {s : ByteArray} {r : Rest} (h : PAt w b s r) : w.cell? ⟨b, 1, none⟩ = some (.int .i64 ((s.size - r.length : Nat) : Int)) := by
  obtain ⟨p, h1, h2, h3⟩ := h.ex
  have e := size_data s
  have hr : r.length = s.size - p := by rw [h2, List.length_drop, e]
  rw [show s.size - r.length = p by omega]
  exact h3.cells.2.1

set_option maxRecDepth 100000 in
set_option maxHeartbeats 4000000 in
theorem parse_any (s : ByteArray) (hs : s.size ≤ maxLen) (w : World) (hsg : SignsAt w) : Calls Tryd.prog 22 #[.string s] w (ParsePost w s) := by
  unfold maxLen at hs
  by_cases hlong : 4096 < s.size
  · have HE : Hid (parseT s = (zeroT, 0, 2)) := by show _ = _; unfold parseT; rw [if_pos hlong]
    have hl : (4096 : Int) < (s.size : Int) := by omega
    clear hlong
    go_enter Tryd.func22, Tryd.ntmps22
    go_wp2_with fail
    refine bodyPost_ret (v := .tuple #[.agg #[.int .i64 0, .string ⟨#[]⟩, .slice none 0 0], .int .i64 0, .int .i64 2]) (by simp [results, Tryd.results22, go_sem]) rfl ?_
    exact ⟨0, ⟨#[]⟩, none, 0, 0, by rw [HE.out]; rfl, by rw [HE.out]; exact zero_form _ _, (Below.refl _ _).alloc (Nat.le_refl _) _⟩
  have hl : decide ((4096 : Int) < (s.size : Int)) = false := by simp; omega
  have HSG := hidIt hsg
  have hE0 : Hid (parseT s = judge s.size (readT s)) := by show _ = _; unfold parseT; rw [if_neg hlong]
  have hs4 : s.size ≤ 4096 := by omega
  clear hsg hlong
  go_enter Tryd.func22, Tryd.ntmps22
  go_wp2_with fail
  have hb2 : Below w.heap.size w ((w.alloc (.cells #[.int .i64 0, .string ⟨#[]⟩, .slice none 0 0] 24)).alloc (.cells #[.string s, .int .i64 0, .string ⟨#[]⟩] 59)) := ((Below.refl _ _).alloc (Nat.le_refl _) _).alloc (by simp) _
  have hpb : PBox ((w.alloc (.cells #[.int .i64 0, .string ⟨#[]⟩, .slice none 0 0] 24)).alloc (.cells #[.string s, .int .i64 0, .string ⟨#[]⟩] 59)) (w.heap.size + 1) s 0 ⟨#[]⟩ := heap_alloc_at (by simp)
  have hk0 : ((w.alloc (.cells #[.int .i64 0, .string ⟨#[]⟩, .slice none 0 0] 24)).alloc (.cells #[.string s, .int .i64 0, .string ⟨#[]⟩] 59)).heap[w.heap.size]? = some (.cells #[.int .i64 0, .string ⟨#[]⟩, .slice none 0 0] 24 (0, 0)) := blk_kept (heap_alloc_new w _) ((Below.refl _ _).alloc (Nat.le_refl _) _)
  have HB0 := hidIt hb2
  have HK0 := hidIt hk0
  have hsg2 := HSG.out.go hb2
  have h00 := HSG.out.lt
  refine (next_any s (by omega) 0 ⟨#[]⟩ (Nat.zero_le _) (w.heap.size + 1) (by omega) _ hpb hsg2).mono ?_
  rintro e w1 ⟨rfl, q, hq, hd, hbox, hg1⟩
  have hr0 : s.data.toList.drop q = skipS s.data.toList := hd
  rw [hr0] at hbox
  have HP1 : Hid (PAt w1 (w.heap.size + 1) s (skipS s.data.toList)) := ⟨⟨q, hq, hr0.symm, hbox⟩, hsg2.kept hg1 (fun e => by injection e with e; omega), by omega, hs4⟩
  have HB1 : Hid (w.grownBy w1 (some (w.heap.size + 1))) := only_trans (only_of_below hb2 _) hg1
  have HK1 := hidIt (own_kept hk0 hg1 (by omega))
  clear hb2 hpb hk0 hsg2 hq hd hbox hg1 hr0
  go_wp2_with fail
  refine ((all_ok (8 * (skipS s.data.toList).length + 7)).eqv (skipS s.data.toList) (Nat.le_refl _) w1 (w.heap.size + 1) s HP1.out).mono ?_
  rintro e w2 ⟨op, nm, a, k, c, rfl, hf, hp2, hg2⟩
  have hread : pF (8 * (skipS s.data.toList).length + 7) 0 (skipS s.data.toList) = readT s := rfl
  rw [hread] at hf hp2
  rw [hread]
  have HE0 := hE0
  cases hres : readT s with
  | mk o r1 =>
    rw [hres] at hf hp2
    have HE1 : Hid (parseT s = judge s.size (o, r1)) := HE0.out.trans (by rw [hres])
    simp only at hf hp2
    have HF2 : Hid (∀ f, o = some f → FormIn w2 (fun i => w.heap.size + 1 + 1 ≤ i) (.agg #[.int .i64 op, .string nm, .slice a k c]) f) := fun f hf' => (hf f hf').mono (fun i _ hi => by have := HP1.out.lt; omega)
    have HB2 := hidIt (only_trans HB1.out hg2)
    have HK2 := hidIt (own_kept HK1.out hg2 (by omega))
    have hR := lt_of_block HK2.out
    obtain ⟨r0, r1', r2⟩ := cell_of3 HK2.out
    obtain ⟨f0, f1, f2⟩ := cells_free HK2.out
    have hat := hp2.at
    have hlt2 := hp2.lt
    have hrl : r1.length ≤ s.size := by
      obtain ⟨p, h1, h2, h3⟩ := hp2.ex
      rw [h2, List.length_drop, size_data]
      omega
    clear hf hp2 hg2 HE0 hres hread
    obtain ⟨m, hm⟩ : ∃ m, m = s.size - r1.length := ⟨_, rfl⟩
    rw [← hm] at hat
    have hms : m ≤ s.size := by omega
    cases o with
    | none =>
      have HE2 : Hid (parseT s = (zeroT, m, 3)) := HE1.out.trans (by rw [hm]; rfl)
      clear hm
      go_wp2_with fail
      go_big_region
      go_wp2_with fail
      refine bodyPost_ret (v := .tuple #[.agg #[.int .i64 0, .string ⟨#[]⟩, .slice none 0 0], .int .i64 (m : Int), .int .i64 3]) (by simp [results, Tryd.results22, go_sem, r0, r1', r2, hR]) rfl ?_
      refine ⟨0, ⟨#[]⟩, none, 0, 0, by rw [HE2.out], by rw [HE2.out]; exact zero_form _ _, below_of_only (only_new HB2.out ?_ (Nat.le_refl w.heap.size)) (by omega)⟩
      exact only_drewN (only_alloc (set_three w2 w.heap.size _ _ _) _) 1
    | some f =>
      have HF3 := hidIt (HF2.out f rfl)
      by_cases hz : r1.length = 0
      · have hms2 : m = s.size := by omega
        have hlt9 : decide ((m : Int) < (s.size : Int)) = false := by simp; omega
        have hmm : decide (m < s.size) = false := by simp; omega
        by_cases hv : valE f = 0
        · have HE2 : Hid (parseT s = (f, 0, 0)) := HE1.out.trans (by simp only [judge]; rw [if_pos hz, if_pos hv])
          have HV := hidIt hv
          clear hm hz hv hms2
          go_wp2_with fail
          refine (validate_any f _ _ ((FormIn.free HF3.out).go ((Below.refl _ _).alloc (Nat.le_refl _) _))).mono ?_
          rintro e w3 ⟨rfl, hb3⟩
          rw [HV.out]
          have HB3 := hidIt (only_trans HB2.out (only_of_below (below_box hb3) _))
          have HK3 := hidIt (blk_kept HK2.out (below_box hb3))
          have HL3 := laid_box hb3
          have hL := lt_of_block HL3
          obtain ⟨l0, l1, l2⟩ := cell_of3 HL3
          clear r0 r1' r2 f0 f1 f2 hR hat
          have hR := lt_of_block HK3.out
          obtain ⟨r0, r1', r2⟩ := cell_of3 HK3.out
          obtain ⟨f0, f1, f2⟩ := cells_free HK3.out
          have HF4 := hidIt (HF3.out.go (below_box hb3))
          clear hb3 HL3
          go_wp2_with fail
          refine bodyPost_ret (v := .tuple #[.agg #[.int .i64 op, .string nm, .slice a k c], .int .i64 0, .int .i64 0]) (by simp [results, Tryd.results22, go_sem, r0, r1', r2, hR]) rfl ?_
          have hgF := set_three w3 w.heap.size (.int .i64 op) (.string nm) (.slice a k c)
          refine ⟨op, nm, a, k, c, by rw [HE2.out]; rfl, ?_, below_of_only (only_new HB3.out hgF (Nat.le_refl _)) (by omega)⟩
          rw [HE2.out]
          exact ((HF4.out).over (w1 := w) hgF (by omega)).mono (fun i _ hi => by omega)
        · have HE2 : Hid (parseT s = (zeroT, 0, 2)) := HE1.out.trans (by simp only [judge]; rw [if_pos hz, if_neg hv])
          have hvz : (valE f == 0) = false := by simp [hv]
          have HR := hidIt (valE_range' f)
          clear hm hz hv hms2
          go_wp2_with fail
          refine (validate_any f _ _ ((FormIn.free HF3.out).go ((Below.refl _ _).alloc (Nat.le_refl _) _))).mono ?_
          rintro e w3 ⟨rfl, hb3⟩
          have HB3 := hidIt (only_trans HB2.out (only_of_below (below_box hb3) _))
          have HK3 := hidIt (blk_kept HK2.out (below_box hb3))
          clear r0 r1' r2 f0 f1 f2 hR hat
          have hR := lt_of_block HK3.out
          obtain ⟨r0, r1', r2⟩ := cell_of3 HK3.out
          obtain ⟨f0, f1, f2⟩ := cells_free HK3.out
          clear hb3
          go_wp2_with fail
          refine bodyPost_ret (v := .tuple #[.agg #[.int .i64 0, .string ⟨#[]⟩, .slice none 0 0], .int .i64 0, .int .i64 2]) (by simp [results, Tryd.results22, go_sem, r0, r1', r2, hR]) rfl ?_
          have hgF := set_three w3 w.heap.size (.int .i64 0) (.string ⟨#[]⟩) (.slice none 0 0)
          exact ⟨0, ⟨#[]⟩, none, 0, 0, by rw [HE2.out]; rfl, by rw [HE2.out]; exact zero_form _ _, below_of_only (only_new HB3.out hgF (Nat.le_refl _)) (by omega)⟩
      · have HE2 : Hid (parseT s = (zeroT, m, 3)) := HE1.out.trans (by simp only [judge]; rw [if_neg hz, hm])
        have hlt9 : (m : Int) < (s.size : Int) := by omega
        have hmm : m < s.size := by omega
        clear hm hz
        go_wp2_with fail
        go_big_region
        go_wp2_with fail
        refine bodyPost_ret (v := .tuple #[.agg #[.int .i64 0, .string ⟨#[]⟩, .slice none 0 0], .int .i64 (m : Int), .int .i64 3]) (by simp [results, Tryd.results22, go_sem, r0, r1', r2, hR]) rfl ?_
        refine ⟨0, ⟨#[]⟩, none, 0, 0, by rw [HE2.out], by rw [HE2.out]; exact zero_form _ _, below_of_only (only_new HB2.out ?_ (Nat.le_refl w.heap.size)) (by omega)⟩
        exact only_drewN (only_alloc (set_three w2 w.heap.size _ _ _) _) 1
end Go.Proofs.YtilkpjcbmllgmaaDoor

namespace Go.Proofs.YtilkpjcbmllgmaaDoor
set_option linter.unusedVariables false
set_option linter.unusedSimpArgs false
open Go Go.RowKit

theorem vn_head {s : ByteArray} (h : vn s = true) : ∃ c t, s.data.toList = c :: t ∧ lowI (c.toNat : Int) = true := by
  unfold vn at h
  rw [Bool.and_eq_true, decide_eq_true_eq] at h
  obtain ⟨⟨h0, -⟩, h2⟩ := h
  have h1 : okUpto s.data.toList 1 = true := by
    cases hk : okUpto s.data.toList 1
    · rw [okUpto_false _ 1 s.size h0 hk] at h2
      cases h2
    · rfl
  have hl := size_data s
  cases hd : s.data.toList with
  | nil => rw [hd] at hl; simp at hl; omega
  | cons c t =>
    refine ⟨c, t, rfl, ?_⟩
    rw [hd] at h1
    simp only [okUpto, Bool.true_and, List.getD_cons_zero] at h1
    unfold fitsB at h1
    unfold lowI
    simp at h1 ⊢
    omega

theorem sgn_bad : ∀ p ∈ sgn, vn ⟨p.toArray⟩ = false ∧ p ≠ [48] ∧ p ≠ [49] ∧ ∃ c t, p = c :: t ∧ lowI (c.toNat : Int) = false := by
  intro p hp
  simp only [sgn, List.mem_cons, List.not_mem_nil, or_false] at hp
  rcases hp with rfl | rfl | rfl | rfl | rfl | rfl | rfl
  all_goals exact ⟨by decide, by decide, by decide, _, _, rfl, by decide⟩

def goodTok (r : Rest) : Prop := tok r = [48] ∨ tok r = [49] ∨ vn ⟨(tok r).toArray⟩ = true
theorem tok_cases (r : Rest) : (goodTok r ∧ rtk r = tok r ∧ ∃ c t, rtk r = c :: t ∧ lowI (c.toNat : Int) = true) ∨ (¬ goodTok r ∧ (rtk r = [] ∨ ∃ c t, rtk r = c :: t ∧ lowI (c.toNat : Int) = false)) := by
  by_cases hg : goodTok r
  · left
    have hne : ∃ c t, tok r = c :: t ∧ lowI (c.toNat : Int) = true := by
      rcases hg with h | h | h
      · exact ⟨48, [], h, by decide⟩
      · exact ⟨49, [], h, by decide⟩
      · exact vn_head h
    obtain ⟨c, t, h1, h2⟩ := hne
    have hr : r ≠ [] := by
      rintro rfl
      have := tok_len []
      rw [h1] at this
      simp at this
    have e : rtk r = tok r := by
      unfold rtk
      rw [if_neg hr, if_neg (by rw [h1]; simp)]
    exact ⟨hg, e, c, t, by rw [e, h1], h2⟩
  · right
    refine ⟨hg, ?_⟩
    by_cases hr : r = []
    · left; unfold rtk; rw [if_pos hr]
    by_cases ht : tok r = []
    · right
      refine ⟨63, [], ?_, by decide⟩
      unfold rtk
      rw [if_neg hr, if_pos ht]
    · right
      have e : rtk r = tok r := by
        unfold rtk
        rw [if_neg hr, if_neg ht]
      rw [e]
      unfold tok at *
      cases hf : sgn.find? (fun p => p.isPrefixOf r) with
      | some p =>
        have hm := List.mem_of_find?_eq_some hf
        obtain ⟨-, -, -, c, t, h1, h2⟩ := sgn_bad p hm
        exact ⟨c, t, by rw [Option.getD_some, h1], h2⟩
      | none =>
        exfalso
        unfold goodTok tok at hg
        rw [hf, Option.getD_none] at hg ht
        simp only [wordTok] at hg ht
        split at ht
        · rename_i h
          rw [if_pos h] at hg
          exact hg h
        · exact ht rfl

theorem pF_unary (k : Nat) (r : Rest) (h1 : tok r ≠ [126]) (h2 : tok r ≠ [40]) : pF (k + 3) 4 r = if tok r = [48] then (some (.node 2 ⟨#[]⟩ []), nxt r) else if tok r = [49] then (some (.node 1 ⟨#[]⟩ []), nxt r) else if vn ⟨(tok r).toArray⟩ then (some (.node 3 ⟨(tok r).toArray⟩ []), nxt r) else (none, r) := by
  rw [pF4, if_neg h1, pF5, if_neg h2]
theorem pF_paren (k : Nat) (r : Rest) (h2 : tok r = [40]) : pF (k + 3) 4 r = closeP (pF k 0 (nxt r)) := by
  rw [pF4, if_neg (by rw [h2]; decide), pF5, if_pos h2]
  rfl

theorem store_post {w w2 : World} {b : Nat} {s : ByteArray} {o1 : Int} {n1 : ByteArray} {a1 : Option Addr} {k1 c1 : Nat} {t1 : Tree} {res : Option Tree × Rest}
    (HG : w.grownBy w2 (some b)) (hbw : b < w.heap.size) (hF : FormIn w2 (fun i => w.heap.size + 1 ≤ i) (.agg #[.int .i64 o1, .string n1, .slice a1 k1 c1]) t1) (hst : RSt w2 b s t1 res) :
    RPost w b s res (.returned (.agg #[.int .i64 o1, .string n1, .slice a1 k1 c1])) (((w2.setCell ⟨w.heap.size, 0, none⟩ (.int .i64 o1)).setCell ⟨w.heap.size, 1, none⟩ (.string n1)).setCell ⟨w.heap.size, 2, none⟩ (.slice a1 k1 c1)) := by
  have h3 := set_three w2 w.heap.size (.int .i64 o1) (.string n1) (.slice a1 k1 c1)
  exact ⟨t1, _, _, _, _, _, rfl, (hF.over (w1 := w) h3 (by omega)).mono (fun i _ hi => by omega), only_new HG h3 (Nat.le_refl _), hst.kept h3 (fun e => by injection e with e; omega)⟩

theorem RPost.alloc {w w' : World} {b : Nat} {s : ByteArray} {res : Option Tree × Rest} {e : Ending} (h : RPost w b s res e w') (o : Obj) : RPost w b s res e (w'.alloc o) := by
  obtain ⟨t, o1, n1, a1, k1, c1, h1, h2, h3, h4⟩ := h
  exact ⟨t, o1, n1, a1, k1, c1, h1, FormIn.go h2 (Grows.alloc _ _), only_alloc h3 _, h4.kept (only_alloc (only_refl _ _) _ : World.grownBy _ _ none) (by simp)⟩

theorem not_post {w w2 w3 : World} {b : Nat} {s : ByteArray} {o3 : Int} {n3 : ByteArray} {a3 : Option Addr} {k3 c3 : Nat} {t3 : Tree} {res res3 : Option Tree × Rest}
    (HG : w.grownBy w2 (some b)) (hsz : w.heap.size + 1 ≤ w2.heap.size) (hbw : b < w.heap.size)
    (hf3 : FormIn w3 (fun i => w2.heap.size ≤ i) (.agg #[.int .i64 o3, .string n3, .slice a3 k3 c3]) t3) (hg3 : w2.grownBy w3 (some b)) (hst : RSt w3 b s t3 res3) (hres : res = notP res3) :
    RPost w b s res (.returned (.agg #[.int .i64 4, .string ⟨#[]⟩, .slice (some ⟨w3.heap.size, 0, none⟩) 1 1]))
      ((((w3.alloc (.cells #[.int .i64 o3, .string n3, .slice a3 k3 c3] 24)).setCell ⟨w.heap.size, 0, none⟩ (.int .i64 4)).setCell ⟨w.heap.size, 1, none⟩ (.string ⟨#[]⟩)).setCell ⟨w.heap.size, 2, none⟩ (.slice (some ⟨w3.heap.size, 0, none⟩) 1 1)) := by
  have ha : w3.grownBy (w3.alloc (.cells #[.int .i64 o3, .string n3, .slice a3 k3 c3] 24)) none := only_alloc (only_refl _ _) _
  have hb := Grows.alloc w3 (.cells #[.int .i64 o3, .string n3, .slice a3 k3 c3] 24)
  have hk := heap_alloc_new w3 (.cells #[.int .i64 o3, .string n3, .slice a3 k3 c3] 24)
  have hs3 := hg3.size
  have hf3' := FormIn.go (hf3.mono (S' := fun i => w.heap.size + 1 ≤ i) fun i _ hi => by omega) hb
  have hst' := hst.kept ha (by simp)
  have hG : w.grownBy (w3.alloc (.cells #[.int .i64 o3, .string n3, .slice a3 k3 c3] 24)) (some b) := only_alloc (only_trans HG hg3) _
  generalize (w3.alloc (.cells #[.int .i64 o3, .string n3, .slice a3 k3 c3] 24)) = W at *
  have hfs : FormsIn W (fun i => w.heap.size + 1 ≤ i) (some ⟨w3.heap.size, 0, none⟩) [t3] := FormsIn.one hk (by omega) hf3'
  have hfm : FormIn W (fun i => w.heap.size + 1 ≤ i) (.agg #[.int .i64 4, .string ⟨#[]⟩, .slice (some ⟨w3.heap.size, 0, none⟩) 1 1]) (.node 4 ⟨#[]⟩ [t3]) := FormIn.mk hfs rfl (i64_small (by omega) (by omega)) nil_le (Nat.le_refl _) (by unfold maxLen; omega)
  refine store_post hG hbw hfm ?_
  obtain ⟨o, r2⟩ := res3
  subst hres
  cases o with
  | none => exact ⟨fun f hf => (by cases hf), fun _ => hst'.no rfl⟩
  | some g =>
    obtain ⟨e, hat⟩ := hst'.yes g rfl
    subst e
    exact ⟨fun f hf => ⟨Option.some.inj hf, hat⟩, fun hn => (by cases hn)⟩

set_option maxRecDepth 100000 in
set_option maxHeartbeats 2000000 in
theorem qunary_walk (k : Nat) (r : Rest) (hU : ∀ r', r'.length < r.length → ROk 104 (pF (k + 2) 4) r') (hI : tok r = [40] → ROk 42 (pF k 0) (nxt r)) : ROk 104 (pF (k + 3) 4) r := by
  intro w b s h
  have hlt := h.lt
  have HA0 : Hid (RAt (w.alloc (.cells #[.int .i64 0, .string ⟨#[]⟩, .slice none 0 0] 24)) b s r) := h.go (Grows.alloc _ _)
  have HK0 := hidIt (heap_alloc_new w (.cells #[.int .i64 0, .string ⟨#[]⟩, .slice none 0 0] 24))
  have HG0 : Hid (w.grownBy (w.alloc (.cells #[.int .i64 0, .string ⟨#[]⟩, .slice none 0 0] 24)) (some b)) := only_alloc (only_refl _ _) _
  have HUU := hidIt hU
  have HII := hidIt hI
  have hRb : w.heap.size ≠ b := by omega
  have hs4 := h.hs
  clear h hU hI
  go_enter Tryd.func104, Tryd.ntmps104
  go_wp2_with fail
  generalize (w.alloc (.cells #[.int .i64 0, .string ⟨#[]⟩, .slice none 0 0] 24)) = w0 at *
  refine (qtake_any ⟨#[126]⟩ [126] (by rw [Lib.toList_data]) rfl (by simp) (by simp) b s r w0 HA0.out).mono ?_
  rintro e w1 ⟨rfl, hyes, hno, hg1⟩
  have HG1 := hidIt (only_trans HG0.out hg1)
  have HK1 := hidIt (own_kept HK0.out hg1 hRb)
  clear hg1 HG0 HK0 HA0
  by_cases ht : tok r = [126]
  · have HA1 := hidIt (hyes ht)
    have hlen : (nxt r).length < r.length := nxt_lt (by decide) ht
    have HEN : Hid (pF (k + 3) 4 r = notP (pF (k + 2) 4 (nxt r))) := by show _ = _; rw [pF4, if_pos ht]
    have hsz1 : w.heap.size + 1 ≤ w1.heap.size := lt_of_block HK1.out
    rw [decide_eq_true ht]
    clear hyes hno ht
    go_wp2_with fail
    refine (HUU.out (nxt r) hlen w1 b s HA1.out).mono ?_
    rintro e w3 ⟨t3, o3, n3, a3, k3, c3, rfl, hf3, hg3, hst3⟩
    have hR3 := blk_kept (own_kept HK1.out hg3 hRb) (Grows.alloc w3 (.cells #[.int .i64 o3, .string n3, .slice a3 k3 c3] 24))
    obtain ⟨s0, s1, s2⟩ := cell_of3 hR3
    obtain ⟨y0, y1, y2⟩ := cells_free hR3
    have hls := lt_of_block hR3
    have HPOST := hidIt (not_post HG1.out hsz1 hlt hf3 hg3 hst3 HEN.out)
    clear hf3 hg3 hst3 hR3
    go_wp2_with fail
    refine bodyPost_ret (v := .agg #[.int .i64 4, .string ⟨#[]⟩, .slice (some ⟨w3.heap.size, 0, none⟩) 1 1]) (by simp [results, Tryd.results104, go_sem, s0, s1, s2, hls]) rfl ?_
    exact HPOST.out
  · have HA1 := hidIt (hno ht)
    have HT126 := hidIt ht
    rw [decide_eq_false ht]
    clear hyes hno ht
    go_wp2_with fail
    refine (qtake_any ⟨#[40]⟩ [40] (by rw [Lib.toList_data]) rfl (by simp) (by simp) b s r w1 HA1.out).mono ?_
    rintro e w2 ⟨rfl, hyes, hno, hg2⟩
    have HG2 := hidIt (only_trans HG1.out hg2)
    have HK2 := hidIt (own_kept HK1.out hg2 hRb)
    have hsz2 : w.heap.size + 1 ≤ w2.heap.size := lt_of_block HK2.out
    clear hg2 HG1 HK1 HA1
    by_cases ht : tok r = [40]
    · have HA2 := hidIt (hyes ht)
      have HIFF := hidIt (HII.out ht)
      have HEP : Hid (pF (k + 3) 4 r = closeP (pF k 0 (nxt r))) := pF_paren k r ht
      rw [decide_eq_true ht]
      clear hyes hno ht
      go_wp2_with fail
      refine (HIFF.out w2 b s HA2.out).mono ?_
      rintro e w3 ⟨t3, o3, n3, a3, k3, c3, rfl, hf3, hg3, hst3⟩
      cases hres : pF k 0 (nxt r) with
      | mk ores r3 =>
      rw [hres] at hst3 HEP
      have hgb : w3.grownBy (w3.alloc (.cells #[.int .i64 o3, .string n3, .slice a3 k3 c3] 24)) none := only_alloc (only_refl _ _) _
      have HST := hidIt (hst3.kept hgb (by simp))
      have HF := hidIt (FormIn.go (hf3.mono (S' := fun i => w.heap.size + 1 ≤ i) fun i _ hi => by omega) (Grows.alloc w3 (.cells #[.int .i64 o3, .string n3, .slice a3 k3 c3] 24)))
      have HG : Hid (w.grownBy (w3.alloc (.cells #[.int .i64 o3, .string n3, .slice a3 k3 c3] 24)) (some b)) := only_alloc (only_trans HG2.out hg3) _
      have HK := hidIt (blk_kept (own_kept HK2.out hg3 hRb) (Grows.alloc w3 (.cells #[.int .i64 o3, .string n3, .slice a3 k3 c3] 24)))
      have HP := hidIt (heap_alloc_new w3 (.cells #[.int .i64 o3, .string n3, .slice a3 k3 c3] 24))
      have hsz3 : b < w3.heap.size := by have := hg3.size; omega
      have hsz3' : w.heap.size < w3.heap.size := by have := hg3.size; omega
      have HK3 := hidIt (own_kept HK2.out hg3 hRb)
      have HST3 := hidIt hst3
      have HF3 := hidIt (hf3.mono (S' := fun i => w.heap.size + 1 ≤ i) fun i _ hi => by omega)
      have HG3 := hidIt (only_trans HG2.out hg3)
      clear hf3 hg3 hst3 hres hgb HK2 HG2
      cases ores with
      | none =>
        obtain ⟨p, hp, hbox⟩ := (HST.out.no rfl).ex
        obtain ⟨c0, c1, c2⟩ := hbox.cells
        have hx0 : ¬ (((s.size - r3.length : Nat) : Int) < 0) := by omega
        have hlb := hbox.lt
        obtain ⟨s0, s1, s2⟩ := cell_of3 HK.out
        obtain ⟨y0, y1, y2⟩ := cells_free HK.out
        have hls := lt_of_block HK.out
        obtain ⟨p0, p1, p2⟩ := cell_of3 HP.out
        have hlp := lt_of_block HP.out
        have HPOST := hidIt ((store_post (res := pF (k + 3) 4 r) HG3.out hlt HF3.out ⟨fun f hf => (by rw [HEP.out] at hf; cases hf), fun _ => by rw [HEP.out]; exact HST3.out.no rfl⟩).alloc (.cells #[.int .i64 o3, .string n3, .slice a3 k3 c3] 24))
        obtain ⟨z0, z1, z2⟩ := cell_of3 HK3.out
        obtain ⟨x0, x1, x2⟩ := cells_free HK3.out
        clear hbox
        go_wp2_with fail
        have hR5 : ((((w3.setCell ⟨w.heap.size, 0, none⟩ (.int .i64 o3)).setCell ⟨w.heap.size, 1, none⟩ (.string n3)).setCell ⟨w.heap.size, 2, none⟩ (.slice a3 k3 c3)).alloc (.cells #[.int .i64 o3, .string n3, .slice a3 k3 c3] 24)).heap[w.heap.size]? = some (.cells #[.int .i64 o3, .string n3, .slice a3 k3 c3] 24 (0, 0)) := by
          refine blk_kept ?_ (Grows.alloc _ _)
          rw [setCell_heap_self (setCell_heap_self (setCell_heap_self HK3.out _) _) _]
          rfl
        obtain ⟨w0', w1', w2'⟩ := cell_of3 hR5
        refine bodyPost_ret (v := .agg #[.int .i64 o3, .string n3, .slice a3 k3 c3]) (by simp [results, Tryd.results104, go_sem, w0', w1', w2']) rfl ?_
        exact HPOST.out
      | some g =>
        obtain ⟨rfl, hat⟩ := HST.out.yes g rfl
        have HAT := hidIt hat
        obtain ⟨p, hp, -, hbox⟩ := hat.ex
        obtain ⟨c0, c1, c2⟩ := hbox.cells
        have hlb := hbox.lt
        clear hbox hat
        go_wp2_with fail
        generalize hWa : (w3.alloc (.cells #[.int .i64 o3, .string n3, .slice a3 k3 c3] 24)) = wa at *
        clear hWa
        have hPb : w3.heap.size ≠ b := by omega
        generalize w3.heap.size = P at *
        refine (qtake_any ⟨#[41]⟩ [41] (by rw [Lib.toList_data]) rfl (by simp) (by simp) b s r3 wa HAT.out).mono ?_
        rintro e w4 ⟨rfl, hyes, hno, hg4⟩
        have HG4 := hidIt (only_trans HG.out hg4)
        have HK4 := hidIt (own_kept HK.out hg4 hRb)
        have HP4 := hidIt (own_kept HP.out hg4 hPb)
        have HF4 := hidIt (HF.out.over (w1 := w) hg4 (by omega))
        clear hg4 HG HK HP HF c0 c1 c2 hlb
        by_cases ht : tok r3 = [41]
        · have HA4 := hidIt (hyes ht)
          have HEC : Hid (pF (k + 3) 4 r = (some t3, nxt r3)) := by show _ = _; rw [HEP.out]; simp only [closeP]; rw [if_pos ht]
          rw [decide_eq_true ht]
          clear hyes hno ht
          obtain ⟨s0, s1, s2⟩ := cell_of3 HK4.out
          obtain ⟨y0, y1, y2⟩ := cells_free HK4.out
          have hls := lt_of_block HK4.out
          obtain ⟨p0, p1, p2⟩ := cell_of3 HP4.out
          have hlp := lt_of_block HP4.out
          have HPOST := hidIt (store_post (res := pF (k + 3) 4 r) HG4.out hlt HF4.out ⟨fun f hf => (by rw [HEC.out] at hf ⊢; exact ⟨Option.some.inj hf, HA4.out⟩), fun hn => by rw [HEC.out] at hn; cases hn⟩)
          go_wp2_with fail
          refine bodyPost_ret (v := .agg #[.int .i64 o3, .string n3, .slice a3 k3 c3]) (by simp [results, Tryd.results104, go_sem, s0, s1, s2, hls]) rfl ?_
          exact HPOST.out
        · have HA4 := hidIt (hno ht)
          have HEC : Hid (pF (k + 3) 4 r = (none, r3)) := by show _ = _; rw [HEP.out]; simp only [closeP]; rw [if_neg ht]
          rw [decide_eq_false ht]
          clear hyes hno ht
          go_wp2_with fail
          refine (qfail_any b s r3 w4 HA4.out).mono ?_
          rintro e w5 ⟨rfl, hbad, hg5⟩
          have HK5 := own_kept HK4.out hg5 hRb
          obtain ⟨s0, s1, s2⟩ := cell_of3 HK5
          obtain ⟨y0, y1, y2⟩ := cells_free HK5
          have hls := lt_of_block HK5
          have HPOST := hidIt (store_post (res := pF (k + 3) 4 r) (only_trans HG4.out hg5) hlt (zero_form w5 _) ⟨fun f hf => (by rw [HEC.out] at hf; cases hf), fun _ => by rw [HEC.out]; exact hbad⟩)
          clear hg5 hbad HK5
          go_wp2_with fail
          refine bodyPost_ret (v := .agg #[.int .i64 0, .string ⟨#[]⟩, .slice none 0 0]) (by simp [results, Tryd.results104, go_sem, s0, s1, s2, hls]) rfl ?_
          exact HPOST.out
    · have HA2 := hidIt (hno ht)
      have HPU := hidIt (pF_unary k r HT126.out ht)
      rw [decide_eq_false ht]
      clear hyes hno ht
      go_wp2_with fail
      obtain ⟨p, hp, hsk, hbox⟩ := HA2.out.ex
      refine (qtoken_any s (by omega) p hp (-1) b w2 hbox).mono ?_
      rintro e w3 ⟨i, rfl, hi, hdi, hb3⟩
      have hdr : s.data.toList.drop i = r := hdi.trans hsk
      have HDR := hidIt hdr
      have HBOX := hidIt (hbox.go hb3)
      have HA3 := hidIt (HA2.out.go hb3)
      have HG3 := hidIt (only_trans HG2.out (only_of_below hb3 (some b)))
      have HK3 := hidIt (blk_kept HK2.out hb3)
      rw [hdr]
      clear hb3 hbox hsk hdi hdr HA2 HG2 HK2
      obtain ⟨X, hX⟩ : ∃ X : ByteArray, X = ⟨(rtk r).toArray⟩ := ⟨_, rfl⟩
      have HXD : Hid (X.data.toList = rtk r) := by show _ = _; rw [hX]
      have HXL : Hid (X.toList = rtk r) := by show _ = _; rw [hX, Lib.toList_data]
      rw [← hX]
      have HXE := hidIt hX
      clear hX
      rcases tok_cases r with ⟨hgood, hrt, c, tl, hct, hlow⟩ | ⟨hbad, hrt⟩
      · have HXC : Hid (X.data.toList = c :: tl) := HXD.out.trans hct
        have hsz := size_data X
        have hX0 : 0 < X.size := by rw [← hsz, HXC.out]; simp
        have hXc : X[0] = c := by
          have h1 := inW_get hX0
          rw [HXC.out] at h1
          simpa using h1.symm
        have hb0 : 0 ≤ (X[0].toNat : Int) := by omega
        have hb' : (X[0].toNat : Int) ≤ 255 := by have := X[0].toNat_lt; omega
        have HLOW : Hid (lowI (X[0].toNat : Int) = true) := by show _ = _; rw [hXc]; exact hlow
        have hXe : ¬ X.toList = [] := by rw [HXL.out, hct]; simp
        have hXe' : (X.toList == []) = false := beq_eq_false_iff_ne.2 hXe
        have HXT : Hid (X.data.toList = tok r) := HXD.out.trans hrt
        have HXLT : Hid (X.toList = tok r) := HXL.out.trans hrt
        have hXS : X.size = (tok r).length := by rw [← hsz, HXT.out]
        obtain ⟨hn1, hn2⟩ := skip_tok hi HDR.out
        rw [← hXS] at hn1 hn2
        have HXM : Hid (X.size ≤ maxLen) := by show _ ≤ _; unfold maxLen; omega
        have hw : IntKind.i64.wrap ((i : Int) + (X.size : Int)) = (i : Int) + (X.size : Int) := by rw [IntWalk.i64_in _ (by omega)]
        obtain ⟨c0, c1, c2⟩ := HBOX.out.cells
        have f1 := HBOX.out.free 1
        have hlb := HBOX.out.lt
        have HQ4 : Hid (QBox (w3.setCell ⟨b, 1, none⟩ (.int .i64 ((i : Int) + (X.size : Int)))) b s (i + X.size) (-1)) := by
          have := HBOX.out.set1 (i + X.size)
          rw [Int.natCast_add] at this
          exact this
        have HA4 : Hid (RAt (w3.setCell ⟨b, 1, none⟩ (.int .i64 ((i : Int) + (X.size : Int)))) b s (nxt r)) := ⟨⟨i + X.size, hn2, hn1, HQ4.out⟩, hs4⟩
        have HG4 : Hid (w.grownBy (w3.setCell ⟨b, 1, none⟩ (.int .i64 ((i : Int) + (X.size : Int)))) (some b)) := only_setCell HG3.out (.inl rfl) _
        have hR4 := own_kept HK3.out (only_setCell (p := ⟨b, 1, none⟩) (only_refl w3 (some b)) (.inl rfl) (.int .i64 ((i : Int) + (X.size : Int)))) hRb
        obtain ⟨s0, s1, s2⟩ := cell_of3 hR4
        obtain ⟨y0, y1, y2⟩ := cells_free hR4
        have hls := lt_of_block hR4
        have HXX : Hid ((⟨(tok r).toArray⟩ : ByteArray) = X) := by show _ = _; rw [HXE.out, hrt]
        clear hXS hsz hXc hlow hct hn1 hrt hR4
        by_cases h49 : X.toList = [49]
        · have HEC : Hid (pF (k + 3) 4 r = (some (.node 1 ⟨#[]⟩ []), nxt r)) := by show _ = _; rw [HPU.out, ← HXLT.out, h49]; rfl
          have HPOST := hidIt (store_post (res := pF (k + 3) 4 r) HG4.out hlt (FormIn.mk (op := 1) (name := ⟨#[]⟩) (ts := []) (FormsIn.nil none) rfl (i64_small (by omega) (by omega)) nil_le (Nat.zero_le _) (Nat.zero_le _)) ⟨fun f hf => (by rw [HEC.out] at hf ⊢; exact ⟨Option.some.inj hf, HA4.out⟩), fun hn => by rw [HEC.out] at hn; cases hn⟩)
          have b49 : (X.toList == [49]) = true := beq_iff_eq.2 h49
          clear hXe
          go_wp2_with fail
          refine (qword_any _ hb0 hb' w3).mono ?_
          rintro e w' ⟨rfl, rfl⟩
          rw [HLOW.out]
          go_wp2_with fail
          refine bodyPost_ret (v := .agg #[.int .i64 1, .string ⟨#[]⟩, .slice none 0 0]) (by simp [results, Tryd.results104, go_sem, s0, s1, s2, hls]) rfl ?_
          exact HPOST.out
        have b49 : (X.toList == [49]) = false := beq_eq_false_iff_ne.2 h49
        by_cases h48 : X.toList = [48]
        · have HEC : Hid (pF (k + 3) 4 r = (some (.node 2 ⟨#[]⟩ []), nxt r)) := by show _ = _; rw [HPU.out, ← HXLT.out, h48]; rfl
          have HPOST := hidIt (store_post (res := pF (k + 3) 4 r) HG4.out hlt (FormIn.mk (op := 2) (name := ⟨#[]⟩) (ts := []) (FormsIn.nil none) rfl (i64_small (by omega) (by omega)) nil_le (Nat.zero_le _) (Nat.zero_le _)) ⟨fun f hf => (by rw [HEC.out] at hf ⊢; exact ⟨Option.some.inj hf, HA4.out⟩), fun hn => by rw [HEC.out] at hn; cases hn⟩)
          have b48 : (X.toList == [48]) = true := beq_iff_eq.2 h48
          clear hXe
          go_wp2_with fail
          refine (qword_any _ hb0 hb' w3).mono ?_
          rintro e w' ⟨rfl, rfl⟩
          rw [HLOW.out]
          go_wp2_with fail
          refine bodyPost_ret (v := .agg #[.int .i64 2, .string ⟨#[]⟩, .slice none 0 0]) (by simp [results, Tryd.results104, go_sem, s0, s1, s2, hls]) rfl ?_
          exact HPOST.out
        have b48 : (X.toList == [48]) = false := beq_eq_false_iff_ne.2 h48
        have HEC : Hid (pF (k + 3) 4 r = (some (.node 3 X []), nxt r)) := by
          show _ = _
          have hv : vn ⟨(tok r).toArray⟩ = true := by
            rcases hgood with h | h | h
            · exact absurd (HXLT.out.trans h) h48
            · exact absurd (HXLT.out.trans h) h49
            · exact h
          rw [HPU.out, if_neg (by rw [← HXLT.out]; exact h48), if_neg (by rw [← HXLT.out]; exact h49), if_pos hv, HXX.out]
        have HPOST := hidIt (store_post (res := pF (k + 3) 4 r) HG4.out hlt (FormIn.mk (op := 3) (name := X) (ts := []) (FormsIn.nil none) rfl (i64_small (by omega) (by omega)) HXM.out (Nat.zero_le _) (Nat.zero_le _)) ⟨fun f hf => (by rw [HEC.out] at hf ⊢; exact ⟨Option.some.inj hf, HA4.out⟩), fun hn => by rw [HEC.out] at hn; cases hn⟩)
        clear hXe h48 h49
        go_wp2_with fail
        refine (qword_any _ hb0 hb' w3).mono ?_
        rintro e w' ⟨rfl, rfl⟩
        rw [HLOW.out]
        go_wp2_with fail
        refine bodyPost_ret (v := .agg #[.int .i64 3, .string X, .slice none 0 0]) (by simp [results, Tryd.results104, go_sem, s0, s1, s2, hls]) rfl ?_
        exact HPOST.out
      · have HEC : Hid (pF (k + 3) 4 r = (none, r)) := by
          show _ = _
          rw [HPU.out, if_neg (fun h => hbad (.inl h)), if_neg (fun h => hbad (.inr (.inl h))), if_neg (fun h => hbad (.inr (.inr h)))]
        obtain ⟨c0, c1, c2⟩ := HBOX.out.cells
        have hlb := HBOX.out.lt
        have HEND : Hid (∀ (e : Ending) (w5 : World), (e = .returned (.agg #[.int .i64 0, .string ⟨#[]⟩, .slice none 0 0]) ∧ RBad w5 b s (s.size - r.length) ∧ w3.grownBy w5 (some b)) → w5.heap[w.heap.size]? = some (.cells #[.int .i64 0, .string ⟨#[]⟩, .slice none 0 0] 24 (0, 0)) ∧ RPost w b s (pF (k + 3) 4 r) (.returned (.agg #[.int .i64 0, .string ⟨#[]⟩, .slice none 0 0])) (((w5.setCell ⟨w.heap.size, 0, none⟩ (.int .i64 0)).setCell ⟨w.heap.size, 1, none⟩ (.string ⟨#[]⟩)).setCell ⟨w.heap.size, 2, none⟩ (.slice none 0 0))) := by
          rintro e w5 ⟨-, hbd, hg5⟩
          exact ⟨own_kept HK3.out hg5 hRb, store_post (only_trans HG3.out hg5) hlt (zero_form w5 _) ⟨fun f hf => (by rw [HEC.out] at hf; cases hf), fun _ => by rw [HEC.out]; exact hbd⟩⟩
        rcases hrt with hrt | ⟨c, tl, hct, hlow⟩
        · have hXe : X.toList = [] := by rw [HXL.out, hrt]
          have hXe' : (X.toList == []) = true := beq_iff_eq.2 hXe
          clear hrt
          go_wp2_with fail
          refine (qfail_any b s r w3 HA3.out).mono ?_
          intro e w5 h5
          obtain ⟨hK5, hP5⟩ := HEND.out e w5 h5
          obtain ⟨rfl, -, -⟩ := h5
          have HP5 := hidIt hP5
          obtain ⟨s0, s1, s2⟩ := cell_of3 hK5
          obtain ⟨y0, y1, y2⟩ := cells_free hK5
          have hls := lt_of_block hK5
          clear hP5 hK5
          go_wp2_with fail
          refine bodyPost_ret (v := .agg #[.int .i64 0, .string ⟨#[]⟩, .slice none 0 0]) (by simp [results, Tryd.results104, go_sem, s0, s1, s2, hls]) rfl ?_
          exact HP5.out
        · have HXC : Hid (X.data.toList = c :: tl) := HXD.out.trans hct
          have hsz := size_data X
          have hX0 : 0 < X.size := by rw [← hsz, HXC.out]; simp
          have hXc : X[0] = c := by
            have h1 := inW_get hX0
            rw [HXC.out] at h1
            simpa using h1.symm
          have hb0 : 0 ≤ (X[0].toNat : Int) := by omega
          have hb' : (X[0].toNat : Int) ≤ 255 := by have := X[0].toNat_lt; omega
          have HLOW : Hid (lowI (X[0].toNat : Int) = false) := by show _ = _; rw [hXc]; exact hlow
          have hXe : ¬ X.toList = [] := by rw [HXL.out, hct]; simp
          have hXe' : (X.toList == []) = false := beq_eq_false_iff_ne.2 hXe
          clear hsz hXc hlow hct hXe
          go_wp2_with fail
          refine (qword_any _ hb0 hb' w3).mono ?_
          rintro e w' ⟨rfl, rfl⟩
          rw [HLOW.out]
          go_wp2_with fail
          refine (qfail_any b s r w3 HA3.out).mono ?_
          intro e w5 h5
          obtain ⟨hK5, hP5⟩ := HEND.out e w5 h5
          obtain ⟨rfl, -, -⟩ := h5
          have HP5 := hidIt hP5
          obtain ⟨s0, s1, s2⟩ := cell_of3 hK5
          obtain ⟨y0, y1, y2⟩ := cells_free hK5
          have hls := lt_of_block hK5
          clear hP5 hK5
          go_wp2_with fail
          refine bodyPost_ret (v := .agg #[.int .i64 0, .string ⟨#[]⟩, .slice none 0 0]) (by simp [results, Tryd.results104, go_sem, s0, s1, s2, hls]) rfl ?_
          exact HP5.out
end Go.Proofs.YtilkpjcbmllgmaaDoor

namespace Go.Proofs.YtilkpjcbmllgmaaDoor
set_option linter.unusedVariables false
set_option linter.unusedSimpArgs false
open Go Go.RowKit

/-- One part alone, or the formula of the parts. -/
def single (op : Int) (l : List Tree) : Tree := if l.length = 1 then l.headD zeroT else .node op ⟨#[]⟩ l
theorem single_one (op : Int) (t : Tree) : single op [t] = t := rfl
theorem single_many (op : Int) {l : List Tree} (h : ¬ l.length = 1) : single op l = .node op ⟨#[]⟩ l := by unfold single; rw [if_neg h]

/-- The reader's state at the head of the loop. -/
structure RowQ (w : World) (b : Nat) (s : ByteArray) (sign : Rest) (SP : Rest → Option Tree × Rest) (op : Int) (res : Option Tree × Rest) (r : Rest) (v : Value) (wr : World) (g : Nat) : Prop where
  ks : wr.heap[w.heap.size]? = some (.cells #[.int .i64 0, .string ⟨#[]⟩, .slice none 0 0] 24 (0, 0))
  gr : w.grownBy wr (some b)
  own : ∃ l : List Tree, OwnF wr (w.heap.size + 1) v l ∧ 1 ≤ l.length ∧ l.length ≤ 10000 ∧
    ((∃ r' : Rest, RAt wr b s r' ∧ (tok r' = sign → manyP op (rowLoop sign SP g l r') = res) ∧ (¬ tok r' = sign → res = (some (single op l), r')) ∧ r'.length < g ∧ r'.length ≤ r.length ∧ l.length + r'.length ≤ r.length + 1) ∨
      (RBad wr b s (s.size - res.2.length) ∧ res.1 = none))

/-- More fuel changes nothing. -/
theorem rowLoop_fuel {sign : Rest} {SP : Rest → Option Tree × Rest} (h0 : 0 < sign.length) (hS : Shrinks SP) : ∀ {n m : Nat} {l : List Tree} {r : Rest}, r.length < n → r.length < m → rowLoop sign SP n l r = rowLoop sign SP m l r := by
  intro n
  induction n with
  | zero => intro m l r h; omega
  | succ n ih =>
    intro m l r h1 h2
    obtain ⟨m, rfl⟩ : ∃ m', m = m' + 1 := ⟨m - 1, by omega⟩
    by_cases ht : tok r = sign
    · cases hp : SP (nxt r) with
      | mk o r1 =>
      cases o with
      | none => rw [rowLoop_fail ht hp, rowLoop_fail ht hp]
      | some f =>
        rw [rowLoop_on ht hp, rowLoop_on ht hp]
        have hs := hS (nxt r)
        rw [hp] at hs
        simp only at hs
        have hn := nxt_lt h0 ht
        exact ih (by omega) (by omega)
    · rw [rowLoop_stop ht, rowLoop_stop ht]

set_option maxRecDepth 100000 in
set_option maxHeartbeats 2000000 in
theorem qand_walk (n : Nat) (r : Rest) (h0 : ROk 104 (pF n 4) r) (h1 : ∀ r', r'.length < r.length → ROk 104 (pF n 4) r') : ROk 89 (pF (n + 1) 3) r := by
  intro w b s h
  have hlt := h.lt
  have hs4 := h.hs
  have hrl := h.len
  have HE : Hid (pF (n + 1) 3 r = rowP 5 [38] (pF n 4) r) := rfl
  have HC : Hid (Calls Tryd.prog 104 #[.pointer (some ⟨b, 0, none⟩)] (w.alloc (.cells #[.int .i64 0, .string ⟨#[]⟩, .slice none 0 0] 24)) (RPost (w.alloc (.cells #[.int .i64 0, .string ⟨#[]⟩, .slice none 0 0] 24)) b s (pF n 4 r))) := h0 _ b s (h.go (Grows.alloc _ _))
  have HP := hidIt h1
  have HK := hidIt (heap_alloc_new w (.cells #[.int .i64 0, .string ⟨#[]⟩, .slice none 0 0] 24))
  have HSH := hidIt (pF_len n 4)
  have hRb : w.heap.size ≠ b := by omega
  clear h h0 h1
  generalize hSP : pF n 4 = SP at *
  clear hSP
  obtain ⟨res, hres0⟩ : ∃ res, res = pF (n + 1) 3 r := ⟨_, rfl⟩
  rw [← hres0] at HE
  have HRES0 := hidIt hres0
  clear hres0
  rw [← HRES0.out]
  clear HRES0
  go_enter Tryd.func89, Tryd.ntmps89
  go_wp2_with fail
  refine HC.out.mono ?_
  rintro e w1 ⟨t1, o1, n1, a1, k1, c1, rfl, hf1, hg1, hst1⟩
  have hst : Hid (RowQ w b s [38] SP 5 res r (.slice (some ⟨w1.heap.size, 0, none⟩) 1 1) (w1.alloc (.cells #[.int .i64 o1, .string n1, .slice a1 k1 c1] 24)) (r.length + 2)) := by
    have hgb : w1.grownBy (w1.alloc (.cells #[.int .i64 o1, .string n1, .slice a1 k1 c1] 24)) none := only_alloc (only_refl _ _) _
    have hst1' := hst1.kept hgb (by simp)
    have hb2 := Grows.alloc w1 (.cells #[.int .i64 o1, .string n1, .slice a1 k1 c1] 24)
    have hsz1 : w.heap.size < w1.heap.size := lt_of_block (own_kept HK.out hg1 hRb)
    refine ⟨blk_kept (own_kept HK.out hg1 hRb) hb2, only_alloc (only_trans (only_alloc (only_refl _ _) _) hg1) _, [t1], OwnF.one (heap_alloc_new w1 _) (by omega) ((hf1.mono (S' := fun k => w.heap.size + 1 ≤ k ∧ k ≠ w1.heap.size) (fun i hi hS => ⟨by simpa using hS, by omega⟩)).go hb2), Nat.le_refl _, by simp, ?_⟩
    have hsh := HSH.out r
    cases hres : SP r with
    | mk o1' r1 =>
    rw [hres] at hst1' hsh
    cases o1' with
    | none =>
      have e : res = (none, r1) := by rw [HE.out, rowP_none hres]
      refine .inr ⟨?_, by rw [e]⟩
      rw [e]
      exact hst1'.no rfl
    | some f =>
      obtain ⟨rfl, hat⟩ := hst1'.yes f rfl
      have hsh' : r1.length ≤ r.length := hsh
      refine .inl ⟨r1, hat, fun ht => ?_, fun ht => by rw [HE.out, rowP_left hres ht, single_one], by omega, hsh', by simp; omega⟩
      rw [HE.out, rowP_many hres ht]
      congr 1
      exact rowLoop_fuel (by decide) HSH.out (by omega) (by omega)
  clear hf1 hg1 hst1 HC HK HE
  go_wp2_with fail
  generalize (w1.alloc (.cells #[.int .i64 o1, .string n1, .slice a1 k1 c1] 24)) = W at *
  go_loopg [3] (r.length + 2) (fun g v wr => Hid (RowQ w b s [38] SP 5 res r v wr g))
  case atStart => exact hst
  case round =>
    clear hst
    have hq := hrel
    clear hrel
    obtain ⟨hks, hgr, l, hown, hl1, hl2, hcase⟩ := hq.out
    clear hq
    have HK1 := hidIt hks
    have HG1 := hidIt hgr
    have HO1 := hidIt hown
    obtain ⟨av, cv, rfl, hlc, hcm, -⟩ := hown.form
    clear hks hgr hown
    rcases hcase with ⟨r', hat, hyes, hno, hg1, hg2, hg3⟩ | ⟨hbad, hnone⟩
    case' inr =>
      have HBD := hidIt hbad
      have HNN := hidIt hnone
      clear hbad hnone
      go_wp2_with fail
      refine (qtakeB_any ⟨#[38]⟩ b s _ wr HBD.out).mono ?_
      rintro e w3 ⟨rfl, hbad3, hb3⟩
      have HO3 := hidIt (HO1.out.go hb3)
      have HG3 := hidIt (only_trans HG1.out (only_of_below hb3 (some b)))
      have HK3 := hidIt (blk_kept HK1.out hb3)
      have HST : Hid (RSt w3 b s (single 5 l) res) := ⟨fun f hf => (by rw [HNN.out] at hf; cases hf), fun _ => hbad3⟩
      clear hbad3 hb3 HBD HNN HO1 HG1 HK1
    case' inl =>
      have HYES := hidIt hyes
      have HNO := hidIt hno
      have HAT := hidIt hat
      clear hyes hno hat
      go_wp2_with fail
      refine (qtake_any ⟨#[38]⟩ [38] (by rw [Lib.toList_data]) rfl (by simp) (by simp) b s r' wr HAT.out).mono ?_
      rintro e w3 ⟨rfl, hyes, hno, hg3'⟩
      have HO3 := hidIt (HO1.out.kept hg3' (fun g e => by injection e with e; omega))
      have HG3 := hidIt (only_trans HG1.out hg3')
      have HK3 := hidIt (own_kept HK1.out hg3' hRb)
      clear hg3' HO1 HG1 HK1 HAT
      by_cases ht : tok r' = [38]
      case pos =>
        have HA3 := hidIt (hyes ht)
        have HT := hidIt ht
        have hnl : (nxt r').length < r.length := Nat.lt_of_lt_of_le (nxt_lt (by decide) ht) hg2
        have hnl2 : (nxt r').length < r'.length := nxt_lt (by decide) ht
        have HRL := hidIt (HYES.out ht)
        have hsz3 : w.heap.size < w3.heap.size := lt_of_block HK3.out
        have hb3 := HA3.out.lt
        obtain ⟨g', rfl⟩ : ∃ g', gk = g' + 1 := ⟨gk - 1, by omega⟩
        rw [decide_eq_true ht]
        clear hyes hno ht HNO HYES
        go_wp2_with fail
        refine (HP.out _ hnl w3 b s HA3.out).mono ?_
        rintro e w4 ⟨t4, o4, n4, a4, k4, c4, rfl, hf4, hg4, hst4⟩
        have hsz4 := hg4.size
        have hgw : w4.grownBy (w4.alloc (.cells #[.int .i64 o4, .string n4, .slice a4 k4 c4] 24)) none := only_alloc (only_refl _ _) _
        have HOW := hidIt ((HO3.out.kept hg4 (fun g e => by injection e with e; omega)).alloc (.cells #[.int .i64 o4, .string n4, .slice a4 k4 c4] 24))
        have HST4 := hidIt (hst4.kept hgw (by simp))
        have HKW := hidIt (blk_kept (own_kept HK3.out hg4 hRb) (Grows.alloc w4 (.cells #[.int .i64 o4, .string n4, .slice a4 k4 c4] 24)))
        have HGW : Hid (w.grownBy (w4.alloc (.cells #[.int .i64 o4, .string n4, .slice a4 k4 c4] 24)) (some b)) := only_alloc (only_trans HG3.out hg4) _
        have HNW := hidIt (heap_alloc_new w4 (.cells #[.int .i64 o4, .string n4, .slice a4 k4 c4] 24))
        have hbw : Hid (w.heap.size + 1 ≤ (w4.alloc (.cells #[.int .i64 o4, .string n4, .slice a4 k4 c4] 24)).heap.size) := by show _ ≤ _; simp; omega
        have HFW : Hid (FormIn (w4.alloc (.cells #[.int .i64 o4, .string n4, .slice a4 k4 c4] 24)) (fun k => w.heap.size + 1 ≤ k ∧ (Value.slice av l.length cv).ownBlock ≠ some k) (.agg #[.int .i64 o4, .string n4, .slice a4 k4 c4]) t4) :=
          (hf4.mono (S' := fun k => w.heap.size + 1 ≤ k ∧ (Value.slice av l.length cv).ownBlock ≠ some k) (fun i hi hS => ⟨by omega, fun e => by have := (HO3.out.block _ e).2; omega⟩)).go (Grows.alloc _ _)
        have hll : l.length ≤ 1000000 := by omega
        clear hf4 hg4 hst4 hgw
        go_wp2_with (at_builtin; refine wpList_append_form rfl _ _ rfl (w.heap.size + 1) _ l rfl HOW.out _ 1 rfl HNW.out t4 HFW.out hll hbw.out ?_)
        intro v5 w5 hown5 hg5 hbl5
        have hob := HOW.out.block
        have HG5 : Hid (w.grownBy w5 (some b)) := by
          cases hv : (Value.slice av l.length cv).ownBlock with
          | none => rw [hv] at hg5; exact only_trans HGW.out ⟨hg5.os, hg5.tape, hg5.output, hg5.size, fun i hi _ => hg5.block i hi (by simp)⟩
          | some g => rw [hv] at hg5; exact only_new HGW.out hg5 (by have := (hob g hv).1; omega)
        have HK5 : Hid (w5.heap[w.heap.size]? = some (.cells #[.int .i64 0, .string ⟨#[]⟩, .slice none 0 0] 24 (0, 0))) := by
          show _ = _
          rw [hg5.block _ (lt_of_block HKW.out) (fun e => by have := (hob _ e.symm).1; omega)]
          exact HKW.out
        have HST5 := hidIt (HST4.out.kept hg5 (fun e => by have := (hob b e).1; omega))
        have HO5 := hidIt hown5
        have HNEW : Hid (∃ g, g < g' + 1 ∧ RowQ w b s [38] SP 5 res r v5 w5 g) := by
          have hsh4 := HSH.out (nxt r')
          cases hres : SP (nxt r') with
          | mk o4' r4 =>
          have hst5 := HST5.out
          rw [hres] at hst5 hsh4
          have hsh4' : r4.length ≤ (nxt r').length := hsh4
          cases o4' with
          | none =>
            have e : res = (none, r4) := by rw [← HRL.out, rowLoop_fail HT.out hres]; rfl
            refine ⟨0, by omega, HK5.out, HG5.out, _, HO5.out, by simp, by simp; omega, .inr ⟨?_, by rw [e]⟩⟩
            rw [e]
            exact hst5.no rfl
          | some f4 =>
            obtain ⟨rfl, hat⟩ := hst5.yes f4 rfl
            have hrl4 : manyP 5 (rowLoop [38] SP g' (l ++ [t4]) r4) = res := by rw [← HRL.out, rowLoop_on HT.out hres]
            refine ⟨g', by omega, HK5.out, HG5.out, _, HO5.out, by simp, by simp; omega, .inl ⟨r4, hat, fun _ => hrl4, fun ht => ?_, by omega, by omega, by simp; omega⟩⟩
            obtain ⟨g2, rfl⟩ : ∃ g2, g' = g2 + 1 := ⟨g' - 1, by omega⟩
            rw [← hrl4, rowLoop_stop ht, single_many 5 (by rw [List.length_append, List.length_singleton]; omega)]
            rfl
        obtain ⟨gn, hgn, hnew⟩ := HNEW.out
        have HN := hidIt hnew
        clear hg5 hob hown5 hbl5 hnew HNEW
        go_wp2_with fail
        go_roundg gn
        case measure => omega
        case rel => exact HN
      case' neg =>
        have HST : Hid (RSt w3 b s (single 5 l) res) := by
          have e := HNO.out ht
          refine ⟨fun f hf => ?_, fun hn => by rw [e] at hn; cases hn⟩
          rw [e] at hf ⊢
          exact ⟨Option.some.inj hf, hno ht⟩
        rw [decide_eq_false ht]
        clear hyes hno ht HNO HYES
    all_goals
      obtain ⟨av', cv', e1, -, -, hforms⟩ := HO3.out.form
      injection e1 with e1 _ e3
      subst e1 e3
      obtain ⟨s0, s1, s2⟩ := cell_of3 HK3.out
      obtain ⟨y0, y1, y2⟩ := cells_free HK3.out
      have hls := lt_of_block HK3.out
      have hcm' := hcm
      unfold maxLen at hcm
      by_cases h1l : l.length = 1
      · obtain ⟨t, rfl⟩ := List.length_eq_one_iff.1 h1l
        obtain ⟨b', off', a', c', rfl, d0, d1, d2, hf⟩ := hforms.at 0 (by simp)
        simp only [List.getElem_cons_zero, Nat.zero_mul, Nat.add_zero] at d0 d1 d2 hf
        have HPOST := hidIt (store_post (res := res) HG3.out hlt hf (by have := HST.out; rw [single_one] at this; exact this))
        simp only [List.length_singleton] at *
        clear hforms hf
        go_wp2_with fail
        refine bodyPost_ret (v := .agg #[.int .i64 t.op, .string t.name, .slice a' t.args.length c']) (by simp [results, Tryd.results89, go_sem, s0, s1, s2, hls]) rfl ?_
        exact HPOST.out
      · have h1l' : ((l.length : Int) == 1) = false := by rw [beq_eq_false_iff_ne]; omega
        have HPOST := hidIt (store_post (res := res) HG3.out hlt (FormIn.mk (op := 5) (name := ⟨#[]⟩) hforms rfl (i64_small (by omega) (by omega)) nil_le hlc hcm') (by have := HST.out; rw [single_many 5 h1l] at this; exact this))
        clear hforms
        go_wp2_with fail
        refine bodyPost_ret (v := .agg #[.int .i64 5, .string ⟨#[]⟩, .slice av l.length cv]) (by simp [results, Tryd.results89, go_sem, s0, s1, s2, hls]) rfl ?_
        exact HPOST.out

set_option maxRecDepth 100000 in
set_option maxHeartbeats 2000000 in
theorem qor_walk (n : Nat) (r : Rest) (h0 : ROk 89 (pF n 3) r) (h1 : ∀ r', r'.length < r.length → ROk 89 (pF n 3) r') : ROk 78 (pF (n + 1) 2) r := by
  intro w b s h
  have hlt := h.lt
  have hs4 := h.hs
  have hrl := h.len
  have HE : Hid (pF (n + 1) 2 r = rowP 6 [124] (pF n 3) r) := rfl
  have HC : Hid (Calls Tryd.prog 89 #[.pointer (some ⟨b, 0, none⟩)] (w.alloc (.cells #[.int .i64 0, .string ⟨#[]⟩, .slice none 0 0] 24)) (RPost (w.alloc (.cells #[.int .i64 0, .string ⟨#[]⟩, .slice none 0 0] 24)) b s (pF n 3 r))) := h0 _ b s (h.go (Grows.alloc _ _))
  have HP := hidIt h1
  have HK := hidIt (heap_alloc_new w (.cells #[.int .i64 0, .string ⟨#[]⟩, .slice none 0 0] 24))
  have HSH := hidIt (pF_len n 3)
  have hRb : w.heap.size ≠ b := by omega
  clear h h0 h1
  generalize hSP : pF n 3 = SP at *
  clear hSP
  obtain ⟨res, hres0⟩ : ∃ res, res = pF (n + 1) 2 r := ⟨_, rfl⟩
  rw [← hres0] at HE
  have HRES0 := hidIt hres0
  clear hres0
  rw [← HRES0.out]
  clear HRES0
  go_enter Tryd.func78, Tryd.ntmps78
  go_wp2_with fail
  refine HC.out.mono ?_
  rintro e w1 ⟨t1, o1, n1, a1, k1, c1, rfl, hf1, hg1, hst1⟩
  have hst : Hid (RowQ w b s [124] SP 6 res r (.slice (some ⟨w1.heap.size, 0, none⟩) 1 1) (w1.alloc (.cells #[.int .i64 o1, .string n1, .slice a1 k1 c1] 24)) (r.length + 2)) := by
    have hgb : w1.grownBy (w1.alloc (.cells #[.int .i64 o1, .string n1, .slice a1 k1 c1] 24)) none := only_alloc (only_refl _ _) _
    have hst1' := hst1.kept hgb (by simp)
    have hb2 := Grows.alloc w1 (.cells #[.int .i64 o1, .string n1, .slice a1 k1 c1] 24)
    have hsz1 : w.heap.size < w1.heap.size := lt_of_block (own_kept HK.out hg1 hRb)
    refine ⟨blk_kept (own_kept HK.out hg1 hRb) hb2, only_alloc (only_trans (only_alloc (only_refl _ _) _) hg1) _, [t1], OwnF.one (heap_alloc_new w1 _) (by omega) ((hf1.mono (S' := fun k => w.heap.size + 1 ≤ k ∧ k ≠ w1.heap.size) (fun i hi hS => ⟨by simpa using hS, by omega⟩)).go hb2), Nat.le_refl _, by simp, ?_⟩
    have hsh := HSH.out r
    cases hres : SP r with
    | mk o1' r1 =>
    rw [hres] at hst1' hsh
    cases o1' with
    | none =>
      have e : res = (none, r1) := by rw [HE.out, rowP_none hres]
      refine .inr ⟨?_, by rw [e]⟩
      rw [e]
      exact hst1'.no rfl
    | some f =>
      obtain ⟨rfl, hat⟩ := hst1'.yes f rfl
      have hsh' : r1.length ≤ r.length := hsh
      refine .inl ⟨r1, hat, fun ht => ?_, fun ht => by rw [HE.out, rowP_left hres ht, single_one], by omega, hsh', by simp; omega⟩
      rw [HE.out, rowP_many hres ht]
      congr 1
      exact rowLoop_fuel (by decide) HSH.out (by omega) (by omega)
  clear hf1 hg1 hst1 HC HK HE
  go_wp2_with fail
  generalize (w1.alloc (.cells #[.int .i64 o1, .string n1, .slice a1 k1 c1] 24)) = W at *
  go_loopg [3] (r.length + 2) (fun g v wr => Hid (RowQ w b s [124] SP 6 res r v wr g))
  case atStart => exact hst
  case round =>
    clear hst
    have hq := hrel
    clear hrel
    obtain ⟨hks, hgr, l, hown, hl1, hl2, hcase⟩ := hq.out
    clear hq
    have HK1 := hidIt hks
    have HG1 := hidIt hgr
    have HO1 := hidIt hown
    obtain ⟨av, cv, rfl, hlc, hcm, -⟩ := hown.form
    clear hks hgr hown
    rcases hcase with ⟨r', hat, hyes, hno, hg1, hg2, hg3⟩ | ⟨hbad, hnone⟩
    case' inr =>
      have HBD := hidIt hbad
      have HNN := hidIt hnone
      clear hbad hnone
      go_wp2_with fail
      refine (qtakeB_any ⟨#[124]⟩ b s _ wr HBD.out).mono ?_
      rintro e w3 ⟨rfl, hbad3, hb3⟩
      have HO3 := hidIt (HO1.out.go hb3)
      have HG3 := hidIt (only_trans HG1.out (only_of_below hb3 (some b)))
      have HK3 := hidIt (blk_kept HK1.out hb3)
      have HST : Hid (RSt w3 b s (single 6 l) res) := ⟨fun f hf => (by rw [HNN.out] at hf; cases hf), fun _ => hbad3⟩
      clear hbad3 hb3 HBD HNN HO1 HG1 HK1
    case' inl =>
      have HYES := hidIt hyes
      have HNO := hidIt hno
      have HAT := hidIt hat
      clear hyes hno hat
      go_wp2_with fail
      refine (qtake_any ⟨#[124]⟩ [124] (by rw [Lib.toList_data]) rfl (by simp) (by simp) b s r' wr HAT.out).mono ?_
      rintro e w3 ⟨rfl, hyes, hno, hg3'⟩
      have HO3 := hidIt (HO1.out.kept hg3' (fun g e => by injection e with e; omega))
      have HG3 := hidIt (only_trans HG1.out hg3')
      have HK3 := hidIt (own_kept HK1.out hg3' hRb)
      clear hg3' HO1 HG1 HK1 HAT
      by_cases ht : tok r' = [124]
      case pos =>
        have HA3 := hidIt (hyes ht)
        have HT := hidIt ht
        have hnl : (nxt r').length < r.length := Nat.lt_of_lt_of_le (nxt_lt (by decide) ht) hg2
        have hnl2 : (nxt r').length < r'.length := nxt_lt (by decide) ht
        have HRL := hidIt (HYES.out ht)
        have hsz3 : w.heap.size < w3.heap.size := lt_of_block HK3.out
        have hb3 := HA3.out.lt
        obtain ⟨g', rfl⟩ : ∃ g', gk = g' + 1 := ⟨gk - 1, by omega⟩
        rw [decide_eq_true ht]
        clear hyes hno ht HNO HYES
        go_wp2_with fail
        refine (HP.out _ hnl w3 b s HA3.out).mono ?_
        rintro e w4 ⟨t4, o4, n4, a4, k4, c4, rfl, hf4, hg4, hst4⟩
        have hsz4 := hg4.size
        have hgw : w4.grownBy (w4.alloc (.cells #[.int .i64 o4, .string n4, .slice a4 k4 c4] 24)) none := only_alloc (only_refl _ _) _
        have HOW := hidIt ((HO3.out.kept hg4 (fun g e => by injection e with e; omega)).alloc (.cells #[.int .i64 o4, .string n4, .slice a4 k4 c4] 24))
        have HST4 := hidIt (hst4.kept hgw (by simp))
        have HKW := hidIt (blk_kept (own_kept HK3.out hg4 hRb) (Grows.alloc w4 (.cells #[.int .i64 o4, .string n4, .slice a4 k4 c4] 24)))
        have HGW : Hid (w.grownBy (w4.alloc (.cells #[.int .i64 o4, .string n4, .slice a4 k4 c4] 24)) (some b)) := only_alloc (only_trans HG3.out hg4) _
        have HNW := hidIt (heap_alloc_new w4 (.cells #[.int .i64 o4, .string n4, .slice a4 k4 c4] 24))
        have hbw : Hid (w.heap.size + 1 ≤ (w4.alloc (.cells #[.int .i64 o4, .string n4, .slice a4 k4 c4] 24)).heap.size) := by show _ ≤ _; simp; omega
        have HFW : Hid (FormIn (w4.alloc (.cells #[.int .i64 o4, .string n4, .slice a4 k4 c4] 24)) (fun k => w.heap.size + 1 ≤ k ∧ (Value.slice av l.length cv).ownBlock ≠ some k) (.agg #[.int .i64 o4, .string n4, .slice a4 k4 c4]) t4) :=
          (hf4.mono (S' := fun k => w.heap.size + 1 ≤ k ∧ (Value.slice av l.length cv).ownBlock ≠ some k) (fun i hi hS => ⟨by omega, fun e => by have := (HO3.out.block _ e).2; omega⟩)).go (Grows.alloc _ _)
        have hll : l.length ≤ 1000000 := by omega
        clear hf4 hg4 hst4 hgw
        go_wp2_with (at_builtin; refine wpList_append_form rfl _ _ rfl (w.heap.size + 1) _ l rfl HOW.out _ 1 rfl HNW.out t4 HFW.out hll hbw.out ?_)
        intro v5 w5 hown5 hg5 hbl5
        have hob := HOW.out.block
        have HG5 : Hid (w.grownBy w5 (some b)) := by
          cases hv : (Value.slice av l.length cv).ownBlock with
          | none => rw [hv] at hg5; exact only_trans HGW.out ⟨hg5.os, hg5.tape, hg5.output, hg5.size, fun i hi _ => hg5.block i hi (by simp)⟩
          | some g => rw [hv] at hg5; exact only_new HGW.out hg5 (by have := (hob g hv).1; omega)
        have HK5 : Hid (w5.heap[w.heap.size]? = some (.cells #[.int .i64 0, .string ⟨#[]⟩, .slice none 0 0] 24 (0, 0))) := by
          show _ = _
          rw [hg5.block _ (lt_of_block HKW.out) (fun e => by have := (hob _ e.symm).1; omega)]
          exact HKW.out
        have HST5 := hidIt (HST4.out.kept hg5 (fun e => by have := (hob b e).1; omega))
        have HO5 := hidIt hown5
        have HNEW : Hid (∃ g, g < g' + 1 ∧ RowQ w b s [124] SP 6 res r v5 w5 g) := by
          have hsh4 := HSH.out (nxt r')
          cases hres : SP (nxt r') with
          | mk o4' r4 =>
          have hst5 := HST5.out
          rw [hres] at hst5 hsh4
          have hsh4' : r4.length ≤ (nxt r').length := hsh4
          cases o4' with
          | none =>
            have e : res = (none, r4) := by rw [← HRL.out, rowLoop_fail HT.out hres]; rfl
            refine ⟨0, by omega, HK5.out, HG5.out, _, HO5.out, by simp, by simp; omega, .inr ⟨?_, by rw [e]⟩⟩
            rw [e]
            exact hst5.no rfl
          | some f4 =>
            obtain ⟨rfl, hat⟩ := hst5.yes f4 rfl
            have hrl4 : manyP 6 (rowLoop [124] SP g' (l ++ [t4]) r4) = res := by rw [← HRL.out, rowLoop_on HT.out hres]
            refine ⟨g', by omega, HK5.out, HG5.out, _, HO5.out, by simp, by simp; omega, .inl ⟨r4, hat, fun _ => hrl4, fun ht => ?_, by omega, by omega, by simp; omega⟩⟩
            obtain ⟨g2, rfl⟩ : ∃ g2, g' = g2 + 1 := ⟨g' - 1, by omega⟩
            rw [← hrl4, rowLoop_stop ht, single_many 6 (by rw [List.length_append, List.length_singleton]; omega)]
            rfl
        obtain ⟨gn, hgn, hnew⟩ := HNEW.out
        have HN := hidIt hnew
        clear hg5 hob hown5 hbl5 hnew HNEW
        go_wp2_with fail
        go_roundg gn
        case measure => omega
        case rel => exact HN
      case' neg =>
        have HST : Hid (RSt w3 b s (single 6 l) res) := by
          have e := HNO.out ht
          refine ⟨fun f hf => ?_, fun hn => by rw [e] at hn; cases hn⟩
          rw [e] at hf ⊢
          exact ⟨Option.some.inj hf, hno ht⟩
        rw [decide_eq_false ht]
        clear hyes hno ht HNO HYES
    all_goals
      obtain ⟨av', cv', e1, -, -, hforms⟩ := HO3.out.form
      injection e1 with e1 _ e3
      subst e1 e3
      obtain ⟨s0, s1, s2⟩ := cell_of3 HK3.out
      obtain ⟨y0, y1, y2⟩ := cells_free HK3.out
      have hls := lt_of_block HK3.out
      have hcm' := hcm
      unfold maxLen at hcm
      by_cases h1l : l.length = 1
      · obtain ⟨t, rfl⟩ := List.length_eq_one_iff.1 h1l
        obtain ⟨b', off', a', c', rfl, d0, d1, d2, hf⟩ := hforms.at 0 (by simp)
        simp only [List.getElem_cons_zero, Nat.zero_mul, Nat.add_zero] at d0 d1 d2 hf
        have HPOST := hidIt (store_post (res := res) HG3.out hlt hf (by have := HST.out; rw [single_one] at this; exact this))
        simp only [List.length_singleton] at *
        clear hforms hf
        go_wp2_with fail
        refine bodyPost_ret (v := .agg #[.int .i64 t.op, .string t.name, .slice a' t.args.length c']) (by simp [results, Tryd.results78, go_sem, s0, s1, s2, hls]) rfl ?_
        exact HPOST.out
      · have h1l' : ((l.length : Int) == 1) = false := by rw [beq_eq_false_iff_ne]; omega
        have HPOST := hidIt (store_post (res := res) HG3.out hlt (FormIn.mk (op := 6) (name := ⟨#[]⟩) hforms rfl (i64_small (by omega) (by omega)) nil_le hlc hcm') (by have := HST.out; rw [single_many 6 h1l] at this; exact this))
        clear hforms
        go_wp2_with fail
        refine bodyPost_ret (v := .agg #[.int .i64 6, .string ⟨#[]⟩, .slice av l.length cv]) (by simp [results, Tryd.results78, go_sem, s0, s1, s2, hls]) rfl ?_
        exact HPOST.out
end Go.Proofs.YtilkpjcbmllgmaaDoor

namespace Go.Proofs.YtilkpjcbmllgmaaDoor
set_option linter.unusedVariables false
set_option linter.unusedSimpArgs false
open Go.RowKit

/-- What Format answers: the error, and the text. -/
def fmtI (t : Tree) : Int := if valE t = 0 then (if 4096 < (textB t).size then 2 else 0) else valE t
def fmtT (t : Tree) : ByteArray := if fmtI t = 0 then textB t else ⟨#[]⟩

theorem valE_zero {t : Tree} (h : valE t = 0) : t.nodes ≤ 600 ∧ t.depth ≤ 20 ∧ t.all kindB = true ∧ t.all nameB = true := by
  unfold valE at h
  split at h
  · rename_i h1
    have h2 := of_decide_eq_true h1
    split at h
    · rename_i h3
      split at h
      · rename_i h4
        exact ⟨by omega, by omega, h3, h4⟩
      · cases h
    · cases h
  · cases h

theorem valE_range (t : Tree) : valE t = 0 ∨ valE t = 2 ∨ valE t = 3 ∨ valE t = 4 := by
  unfold valE
  repeat' split
  all_goals simp

theorem ret_two {a b c d : Value} (h : a = b) (k : c = d) : Ending.returned (.tuple #[a, c]) = .returned (.tuple #[b, d]) := by rw [h, k]

set_option maxHeartbeats 400000 in
theorem fformat_any (t : Tree) (v : Value) (w : World) (h : FormAt w none v t) :
    Calls Tryd.prog 10 #[v] w fun e w' => e = .returned (.tuple #[.string (fmtT t), .int .i64 (fmtI t)]) ∧ Below w.heap.size w w' := by
  obtain ⟨a, cap, b, off, rfl, hop, hname, hlen, hcap, -, -⟩ := h.form
  have H := hidIt (h.go ((Below.refl _ _).alloc (Nat.le_refl _) (.cells #[.int .i64 t.op, .string t.name, .slice a t.args.length cap] 24)))
  clear h
  by_cases hv : valE t = 0
  · obtain ⟨h1, -, h3, h4⟩ := valE_zero hv
    have HT := hidIt (text_any t h3 h4 h1)
    have hsz := textB_size t h4
    have HV := hidIt hv
    by_cases hl : 4096 < (textB t).size
    · have HI : Hid (fmtI t = 2) := by show _ = _; unfold fmtI; rw [if_pos hv, if_pos hl]
      have HE : Hid (fmtT t = ⟨#[]⟩) := by show _ = _; unfold fmtT; rw [HI.out]; rfl
      have hl' : (4096 : Int) < ((textB t).size : Int) := by omega
      clear hv h3 h4 hl
      go_enter Tryd.func10, Tryd.ntmps10
      go_wp2_with fail
      refine (validate_any t _ _ H.out).mono ?_
      rintro e w' ⟨rfl, hb⟩
      rw [HV.out]
      have HB := hidIt (below_box hb)
      obtain ⟨p0, p1, p2⟩ := cell_of3 (laid_box hb)
      have hsz : w.heap.size < w'.heap.size := lt_of_block (laid_box hb)
      have HF := hidIt (H.out.go hb)
      clear hb
      go_wp2_with fail
      refine (HT.out _ _ HF.out).mono ?_
      rintro e w2 ⟨rfl, hb2⟩
      have HB2 := hidIt (HB.out.trans (hb2.mono HB.out.size))
      clear hb2
      go_wp2_with fail
      go_ret2
      exact ⟨ret_two (congrArg Value.string HE.out.symm) (congrArg (Value.int .i64) HI.out.symm), HB2.out⟩
    · have HI : Hid (fmtI t = 0) := by show _ = _; unfold fmtI; rw [if_pos hv, if_neg hl]
      have HE : Hid (fmtT t = textB t) := by show _ = _; unfold fmtT; rw [HI.out]; rfl
      have hl' : decide ((4096 : Int) < ((textB t).size : Int)) = false := by simp; omega
      clear hv h3 h4
      go_enter Tryd.func10, Tryd.ntmps10
      go_wp2_with fail
      refine (validate_any t _ _ H.out).mono ?_
      rintro e w' ⟨rfl, hb⟩
      rw [HV.out]
      have HB := hidIt (below_box hb)
      obtain ⟨p0, p1, p2⟩ := cell_of3 (laid_box hb)
      have hsz : w.heap.size < w'.heap.size := lt_of_block (laid_box hb)
      have HF := hidIt (H.out.go hb)
      clear hb
      go_wp2_with fail
      refine (HT.out _ _ HF.out).mono ?_
      rintro e w2 ⟨rfl, hb2⟩
      have HB2 := hidIt (HB.out.trans (hb2.mono HB.out.size))
      clear hb2
      go_wp2_with fail
      go_ret2
      exact ⟨ret_two (congrArg Value.string HE.out.symm) (congrArg (Value.int .i64) HI.out.symm), HB2.out⟩
  · have HI : Hid (fmtI t = valE t) := by show _ = _; unfold fmtI; rw [if_neg hv]
    have HE : Hid (fmtT t = ⟨#[]⟩) := by show _ = _; unfold fmtT; rw [HI.out, if_neg hv]
    have hz : (valE t == 0) = false := by simp [hv]
    have hz2 : (valE t != 0) = true := by simp [hv]
    have hr := valE_range t
    have HR := hidIt hr
    clear hr
    go_enter Tryd.func10, Tryd.ntmps10
    go_wp2_with fail
    refine (validate_any t _ _ H.out).mono ?_
    rintro e w' ⟨rfl, hb⟩
    have HB := hidIt (below_box hb)
    clear hb
    go_wp2_with fail
    go_ret2
    exact ⟨ret_two (congrArg Value.string HE.out.symm) (congrArg (Value.int .i64) HI.out.symm), HB.out⟩
end Go.Proofs.YtilkpjcbmllgmaaDoor
