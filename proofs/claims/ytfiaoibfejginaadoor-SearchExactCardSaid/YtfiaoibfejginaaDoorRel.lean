/- A region that draws its order, whose operations may give values that hang on the order (new memory's addresses): each such value is known by a relation of its own, laid ahead; one walk in the order of the text serves every order. An operation may lean on the relations of those temporaries alone that it looks at. -/
import Derived.BigQuiet
import Derived.WalkKit
namespace Go.Proofs.YtfiaoibfejginaaDoor
set_option linter.unusedVariables false
set_option linter.unusedSimpArgs false
open Go

section
variable (P : Program) (ops : Array Oper) (C : World → Prop) (G : World → World → Prop) (R : Tmp → Option (Value → World → Prop))

/-- What is known of the frame's temporaries in the set F, in the world w. -/
def Knows (F : Tmp → Prop) (a : Act) (w : World) : Prop := ∀ s, F s → ∀ r, R s = some r → r (a.eval (.tmp s)) w
/-- What the operation may lean on. -/
def Leans (F : Tmp → Prop) (o : Oper) (a : Act) (w : World) : Prop := ∀ s, F s → s ∈ o.looksAt ops → ∀ r, R s = some r → r (a.eval (.tmp s)) w
def KnownTo (F : Tmp → Prop) (a : Act) : Prop := ∃ w, C w ∧ Knows R F a w
def more (F : Tmp → Prop) (t : Tmp) : Tmp → Prop := fun s => s = t ∨ F s

def relUpon (r : Value → World → Prop) (w : World) : Result Next → Prop
  | .ok (.value u) w' => C w' ∧ G w w' ∧ r u w'
  | .ok .skip w' => C w' ∧ G w w' ∧ r undef w'
  | .ok (.enter f args) w' => Calls P f args w' fun e w'' => ∃ u, e = .returned u ∧ C w'' ∧ G w w'' ∧ r u w''
  | _ => False
def plainUpon (x : Value) (w : World) : Result Next → Prop
  | .ok (.value u) w' => w' = w ∧ u = x
  | .ok .skip w' => w' = w ∧ undef = x
  | _ => False

def opRel (r : Value → World → Prop) (F : Tmp → Prop) (o : Oper) (a : Act) : Prop := ∀ w, C w → Leans ops R F o a w → relUpon P C G r w ((execOp a.eval o).run P w)
def opPlain (x : Value) (F : Tmp → Prop) (o : Oper) (a : Act) : Prop := ∀ w, C w → Leans ops R F o a w → plainUpon x w ((execOp a.eval o).run P w)

/-- One operation that is carried out; what follows is asked of K. -/
def opDo (o : Oper) (K : (Tmp → Prop) → Act → Prop) (F : Tmp → Prop) (a : Act) : Prop :=
  match o.dst with
  | none => opRel P ops C G R (fun _ _ => True) F o a ∧ K F a
  | some t => match R t with
    | none => ∃ x, opPlain P ops C R x F o a ∧ K F (a.put (some t) x)
    | some r => t < a.tmps.size ∧ opRel P ops C G R r F o a ∧ ∀ v, KnownTo C R (more F t) (a.put (some t) v) → K (more F t) (a.put (some t) v)
def opAt (o : Oper) (K : (Tmp → Prop) → Act → Prop) (F : Tmp → Prop) (a : Act) : Prop :=
  (Region.wanted o (yielded ops a.tmps) = true → opDo P ops C G R o K F a) ∧ (Region.wanted o (yielded ops a.tmps) = false → K F (a.put o.dst undef))

def anyR (md : Region.Mode) (E : (Tmp → Prop) → Act → Prop) : Nat → Array Bool → (Tmp → Prop) → Act → Prop
  | 0, listed, F, a => Region.ready md ops listed = [] ∧ E F a
  | n + 1, listed, F, a => (Region.ready md ops listed = [] → E F a) ∧ ∀ i ∈ Region.ready md ops listed, ∀ o, ops[i]? = some o → opAt P ops C G R o (anyR md E n (listed.setIfInBounds i true)) F a

/-- The walk in the order of the text. -/
def walkR (E : (Tmp → Prop) → Act → Prop) : List Oper → (Tmp → Prop) → Act → Prop
  | [], F, a => E F a
  | o :: rest, F, a => opAt P ops C G R o (walkR E rest) F a
end

section
variable {P : Program} {ops : Array Oper} {C : World → Prop} {G : World → World → Prop} {R : Tmp → Option (Value → World → Prop)} {md : Region.Mode} {E : (Tmp → Prop) → Act → Prop}

def Stable (C : World → Prop) (G : World → World → Prop) (R : Tmp → Option (Value → World → Prop)) : Prop := ∀ s r, R s = some r → ∀ v w w', C w → C w' → G w w' → r v w → r v w'

theorem put_size (a : Act) (d : Option Tmp) (v : Value) : (a.put d v).tmps.size = a.tmps.size := by cases d <;> simp [Act.put]
theorem eval_put_self (a : Act) (t : Tmp) (v : Value) (h : t < a.tmps.size) : (a.put (some t) v).eval (.tmp t) = v := by simp [Act.eval, Act.put, h]
theorem eval_put_ne (a : Act) {t s : Tmp} (v : Value) (h : s ≠ t) : (a.put (some t) v).eval (.tmp s) = a.eval (.tmp s) :=
  Act.eval_put fun d hd => by injection hd with hd; subst hd; intro e; injection e with e; exact h e

theorem Knows.put {F : Tmp → Prop} {a : Act} {w : World} {d : Option Tmp} {v : Value} (hf : ∀ t, d = some t → ¬ F t) : Knows R F (a.put d v) w ↔ Knows R F a w := by
  refine ⟨fun h s hs r hr => ?_, fun h s hs r hr => ?_⟩
  · have := h s hs r hr
    rwa [Act.eval_put (fun t ht e => by injection e with e; subst e; exact hf _ ht hs)] at this
  · rw [Act.eval_put (fun t ht e => by injection e with e; subst e; exact hf _ ht hs)]
    exact h s hs r hr
theorem KnownTo.put {F : Tmp → Prop} {a : Act} {d : Option Tmp} {v : Value} (hf : ∀ t, d = some t → ¬ F t) : KnownTo C R F (a.put d v) ↔ KnownTo C R F a :=
  ⟨fun ⟨w, h, k⟩ => ⟨w, h, (Knows.put hf).1 k⟩, fun ⟨w, h, k⟩ => ⟨w, h, (Knows.put hf).2 k⟩⟩
theorem Knows.less {F : Tmp → Prop} {t : Tmp} {a : Act} {w : World} (h : Knows R (more F t) a w) : Knows R F a w := fun s hs => h s (.inr hs)
theorem Knows.leans {F : Tmp → Prop} {o : Oper} {a : Act} {w : World} (h : Knows R F a w) : Leans ops R F o a w := fun s hs _ => h s hs
theorem Knows.made (hR : Stable C G R) {F : Tmp → Prop} {a : Act} {w w' : World} {t : Tmp} {v : Value} {r : Value → World → Prop} (h : Knows R F a w) (hC : C w) (hC' : C w') (hG : G w w') (hf : ¬ F t) (ht : t < a.tmps.size) (hr : R t = some r) (hv : r v w') :
    Knows R (more F t) (a.put (some t) v) w' := by
  intro s hs r' hr'
  rcases hs with rfl | hs
  · rw [eval_put_self _ _ _ ht]
    rw [hr] at hr'
    injection hr' with hr'
    rw [← hr']
    exact hv
  · have hne : s ≠ t := fun e => hf (e ▸ hs)
    rw [eval_put_ne _ _ hne]
    exact hR s r' hr' _ w w' hC hC' hG (h s hs r' hr')
theorem Knows.grown (hR : Stable C G R) {F : Tmp → Prop} {a : Act} {w w' : World} (h : Knows R F a w) (hC : C w) (hC' : C w') (hG : G w w') : Knows R F a w' := fun s hs r hr => hR s r hr _ w w' hC hC' hG (h s hs r hr)

/-- Some outcome of an operation. -/
theorem rel_some {r : Value → World → Prop} {w : World} {x : Result Next} (h : relUpon P C G r w x) : ∃ u w', C w' ∧ G w w' ∧ r u w' := by
  unfold relUpon at h
  split at h
  · exact ⟨_, _, h⟩
  · exact ⟨_, _, h⟩
  · obtain ⟨e, w', fr, ⟨u, he, hu⟩, -⟩ := h []
    exact ⟨u, w', hu⟩
  · exact h.elim

theorem plain_same {x y : Value} {w : World} {r : Result Next} (h : plainUpon x w r) (h' : plainUpon y w r) : x = y := by
  unfold plainUpon at h h'
  split at h
  · exact h.2.symm.trans h'.2
  · exact h.2.symm.trans h'.2
  · exact h.elim

/-- From every world of the class in which what is known holds. -/
theorem wpAny_of_anyR (hR : Stable C G R) {Q : Exit → Act → World → Prop} (hE : ∀ F a w, C w → Knows R F a w → E F a → Q .normal a w) (hD : ∀ (k k' : Nat) (o o' : Oper) (t : Tmp), ops[k]? = some o → ops[k']? = some o' → o.dst = some t → o'.dst = some t → k = k') :
    ∀ (n : Nat) (listed : Array Bool) (F : Tmp → Prop) (a : Act) (w : World), (∀ (k : Nat) (o : Oper) (t : Tmp), ops[k]? = some o → listed.getD k true = false → o.dst = some t → ¬ F t) → C w → Knows R F a w → anyR P ops C G R md E n listed F a → wpAny P md ops Q n listed a w
  | 0, _, F, a, w, _, hC, hK, h => ⟨h.1, hE F a w hC hK h.2⟩
  | n + 1, listed, F, a, w, hf, hC, hK, h => by
    refine ⟨fun h0 => hE F a w hC hK (h.1 h0), fun i hi => ?_⟩
    obtain ⟨hun, o, ho, -⟩ := mem_ready.1 hi
    obtain ⟨h1, h2⟩ := h.2 i hi o ho
    have hfo := hf i o
    have hf' : ∀ (k : Nat) (o' : Oper) (t : Tmp), ops[k]? = some o' → (listed.setIfInBounds i true).getD k true = false → o'.dst = some t → ¬ F t := fun k o' t hk hl ht => by
      by_cases hki : i = k
      · subst hki; exact hf i o' t hk hun ht
      · rw [getD_set_ne true hki] at hl; exact hf k o' t hk hl ht
    have hsame : ∀ d v, o.dst = d → anyR P ops C G R md E n (listed.setIfInBounds i true) F (a.put d v) → wpAny P md ops Q n (listed.setIfInBounds i true) (a.put d v) w := fun d v hd hk =>
      wpAny_of_anyR hR hE hD n _ F _ w hf' hC ((Knows.put fun t ht => hfo t ho hun (hd.trans ht)).2 hK) hk
    unfold wpOp
    simp only [ho]
    cases hw : Region.wanted o (yielded ops a.tmps)
    · simp only [Bool.false_eq_true, if_false]
      exact hsame _ _ rfl (h2 hw)
    · simp only [if_true]
      refine .inl ?_
      have h3 := h1 hw
      unfold opDo at h3
      unfold Oper.wp
      cases hd : o.dst with
      | none =>
        simp only [hd] at h3
        obtain ⟨h4, h5⟩ := h3
        have h6 := h4 w hC hK.leans
        generalize (execOp a.eval o).run P w = x at h6 ⊢
        have fin : ∀ w', C w' → G w w' → ∀ v, wpAny P md ops Q n (listed.setIfInBounds i true) (a.put o.dst v) w' := fun w' hC' hG v => by
          rw [hd]
          exact wpAny_of_anyR hR hE hD n _ F _ w' hf' hC' (hK.grown hR hC hC' hG) h5
        unfold relUpon at h6
        split at h6
        · exact fin _ h6.1 h6.2.1 _
        · exact fin _ h6.1 h6.2.1 _
        · exact h6.mono fun e w'' ⟨u, he, hC', hG, _⟩ => by subst he; exact fin _ hC' hG _
        · exact h6.elim
      | some t =>
        simp only [hd] at h3
        cases hr : R t with
        | none =>
          simp only [hr] at h3
          obtain ⟨x, h4, h5⟩ := h3
          have h6 := h4 w hC hK.leans
          generalize (execOp a.eval o).run P w = y at h6 ⊢
          have fin := hsame (some t) x hd h5
          unfold plainUpon at h6
          split at h6
          · obtain ⟨rfl, rfl⟩ := h6
            show wpAny P md ops Q n _ (a.put o.dst _) _
            rw [hd]; exact fin
          · obtain ⟨rfl, rfl⟩ := h6
            show wpAny P md ops Q n _ (a.put o.dst _) _
            rw [hd]; exact fin
          · exact h6.elim
        | some r =>
          simp only [hr] at h3
          obtain ⟨hlt, h4, h5⟩ := h3
          have h6 := h4 w hC hK.leans
          generalize (execOp a.eval o).run P w = y at h6 ⊢
          have fin : ∀ w' v, C w' → G w w' → r v w' → wpAny P md ops Q n (listed.setIfInBounds i true) (a.put o.dst v) w' := fun w' v hC' hG hv => by
            have hk := hK.made hR hC hC' hG (hfo t ho hun hd) hlt hr hv
            rw [hd]
            refine wpAny_of_anyR hR hE hD n _ (more F t) _ w' (fun k o' t' hk' hl ht' => ?_) hC' hk (h5 v ⟨w', hC', hk⟩)
            rintro (rfl | hF)
            · obtain rfl : k = i := hD k i o' o _ hk' ho ht' hd
              have : k < listed.size := by
                rcases Nat.lt_or_ge k listed.size with h' | h'
                · exact h'
                · simp [Array.getElem?_eq_none h'] at hun
              simp [this] at hl
            · exact hf' k o' t' hk' hl ht' hF
          unfold relUpon at h6
          split at h6
          · exact fin _ _ h6.1 h6.2.1 h6.2.2
          · exact fin _ _ h6.1 h6.2.1 h6.2.2
          · exact h6.mono fun e w'' ⟨u, he, hC', hG, hv⟩ => by subst he; exact fin _ _ hC' hG hv
          · exact h6.elim

theorem Leans.put {F : Tmp → Prop} {o : Oper} {a : Act} {w : World} {d : Option Tmp} {v : Value} (h : ∀ t, d = some t → t ∉ o.looksAt ops) : Leans ops R F o (a.put d v) w ↔ Leans ops R F o a w := by
  refine ⟨fun h1 s hs hl r hr => ?_, fun h1 s hs hl r hr => ?_⟩
  · have := h1 s hs hl r hr
    rwa [Act.eval_put (fun t ht e => by injection e with e; subst e; exact h _ ht hl)] at this
  · rw [Act.eval_put (fun t ht e => by injection e with e; subst e; exact h _ ht hl)]
    exact h1 s hs hl r hr
theorem Leans.more_iff {F : Tmp → Prop} {o : Oper} {a : Act} {w : World} {t : Tmp} (h : t ∉ o.looksAt ops) : Leans ops R (more F t) o a w ↔ Leans ops R F o a w :=
  ⟨fun h1 s hs => h1 s (.inr hs), fun h1 s hs hl => by
    rcases hs with rfl | hs
    · exact absurd hl h
    · exact h1 s hs hl⟩

variable (hsel : ∀ (j : Nat) (o : Oper) cs b, ops[j]? = some o → o.op ≠ .select cs b)

theorem opRel_put {o : Oper} {r : Value → World → Prop} {F : Tmp → Prop} {a : Act} {d : Option Tmp} {v : Value} (hs : ∀ cs b, o.op ≠ .select cs b) (h : ∀ t, d = some t → t ∉ o.looksAt ops) : opRel P ops C G R r F o (a.put d v) ↔ opRel P ops C G R r F o a := by
  unfold opRel
  rw [execOp_put (ops := ops) o hs a d v h]
  exact forall_congr' fun w => forall_congr' fun _ => by rw [Leans.put h]
theorem opRel_more {o : Oper} {r : Value → World → Prop} {F : Tmp → Prop} {a : Act} {t : Tmp} (h : t ∉ o.looksAt ops) : opRel P ops C G R r (more F t) o a ↔ opRel P ops C G R r F o a := by
  unfold opRel
  exact forall_congr' fun w => forall_congr' fun _ => by rw [Leans.more_iff h]
theorem opPlain_put {o : Oper} {x : Value} {F : Tmp → Prop} {a : Act} {d : Option Tmp} {v : Value} (hs : ∀ cs b, o.op ≠ .select cs b) (h : ∀ t, d = some t → t ∉ o.looksAt ops) : opPlain P ops C R x F o (a.put d v) ↔ opPlain P ops C R x F o a := by
  unfold opPlain
  rw [execOp_put (ops := ops) o hs a d v h]
  exact forall_congr' fun w => forall_congr' fun _ => by rw [Leans.put h]
theorem opPlain_more {o : Oper} {x : Value} {F : Tmp → Prop} {a : Act} {t : Tmp} (h : t ∉ o.looksAt ops) : opPlain P ops C R x (more F t) o a ↔ opPlain P ops C R x F o a := by
  unfold opPlain
  exact forall_congr' fun w => forall_congr' fun _ => by rw [Leans.more_iff h]

theorem more_comm (F : Tmp → Prop) (s t : Tmp) : more (more F s) t = more (more F t) s := by
  funext x
  exact propext ⟨fun h => by rcases h with h | h | h <;> simp [more, h], fun h => by rcases h with h | h | h <;> simp [more, h]⟩

theorem not_more {F : Tmp → Prop} {s t : Tmp} (h : ¬ F s) (hne : s ≠ t) : ¬ more F t s := fun hm => by
  rcases hm with rfl | hm
  · exact hne rfl
  · exact h hm
/-- How an operation goes: by one value (some x), or by its relation (none). -/
def Ev (P : Program) (ops : Array Oper) (C : World → Prop) (G : World → World → Prop) (R : Tmp → Option (Value → World → Prop)) (o : Oper) (F : Tmp → Prop) (a : Act) : Option Value → Prop
  | some x => (Region.wanted o (yielded ops a.tmps) = false ∧ x = undef) ∨ (Region.wanted o (yielded ops a.tmps) = true ∧ ((o.dst = none ∧ opRel P ops C G R (fun _ _ => True) F o a ∧ x = undef) ∨ ∃ t, o.dst = some t ∧ R t = none ∧ opPlain P ops C R x F o a))
  | none => Region.wanted o (yielded ops a.tmps) = true ∧ ∃ t r, o.dst = some t ∧ R t = some r ∧ t < a.tmps.size ∧ opRel P ops C G R r F o a

theorem opAt_iff {o : Oper} {K : (Tmp → Prop) → Act → Prop} {F : Tmp → Prop} {a : Act} : opAt P ops C G R o K F a ↔
    (∃ x, Ev P ops C G R o F a (some x) ∧ K F (a.put o.dst x)) ∨ (Ev P ops C G R o F a none ∧ ∀ t, o.dst = some t → ∀ v, KnownTo C R (more F t) (a.put (some t) v) → K (more F t) (a.put (some t) v)) := by
  unfold opAt Ev
  cases hw : Region.wanted o (yielded ops a.tmps)
  · constructor
    · rintro ⟨-, h⟩
      exact .inl ⟨undef, .inl ⟨rfl, rfl⟩, h rfl⟩
    · rintro (⟨x, (⟨-, rfl⟩ | ⟨h, -⟩), hk⟩ | ⟨⟨h, -⟩, -⟩)
      · exact ⟨fun h => (by cases h), fun _ => hk⟩
      · cases h
      · cases h
  · unfold opDo
    cases hd : o.dst with
    | none =>
      constructor
      · rintro ⟨h, -⟩
        obtain ⟨h1, h2⟩ := h (by trivial)
        exact .inl ⟨undef, .inr ⟨by trivial, .inl ⟨rfl, h1, rfl⟩⟩, h2⟩
      · rintro (⟨x, (⟨h, -⟩ | ⟨-, (⟨-, h1, -⟩ | ⟨t, h, -⟩)⟩), hk⟩ | ⟨⟨-, t, r, h, -⟩, -⟩)
        · cases h
        · exact ⟨fun _ => ⟨h1, hk⟩, fun h => by cases h⟩
        · cases h
        · cases h
    | some t =>
      cases hr : R t with
      | none =>
        simp only [hr]
        constructor
        · rintro ⟨h, -⟩
          obtain ⟨x, h1, h2⟩ := h (by trivial)
          exact .inl ⟨x, .inr ⟨by trivial, .inr ⟨t, rfl, hr, h1⟩⟩, h2⟩
        · rintro (⟨x, (⟨h, -⟩ | ⟨-, (⟨h, -⟩ | ⟨t', h, hr', h1⟩)⟩), hk⟩ | ⟨⟨-, t', r, h, hr', -⟩, -⟩)
          · cases h
          · cases h
          · exact ⟨fun _ => ⟨x, h1, hk⟩, fun h => by cases h⟩
          · injection h with h
            subst h
            rw [hr] at hr'
            cases hr'
      | some r =>
        simp only [hr]
        constructor
        · rintro ⟨h, -⟩
          obtain ⟨h1, h2, h3⟩ := h (by trivial)
          refine .inr ⟨⟨by trivial, t, r, rfl, hr, h1, h2⟩, fun t' ht' => ?_⟩
          injection ht' with ht'
          subst ht'
          exact h3
        · rintro (⟨x, (⟨h, -⟩ | ⟨-, (⟨h, -⟩ | ⟨t', h, hr', h1⟩)⟩), hk⟩ | ⟨⟨-, t', r', h, hr', h1, h2⟩, h3⟩)
          · cases h
          · cases h
          · injection h with h
            subst h
            rw [hr] at hr'
            cases hr'
          · injection h with h
            subst h
            rw [hr] at hr'
            injection hr' with hr'
            subst hr'
            exact ⟨fun _ => ⟨h1, h2, h3 _ rfl⟩, fun h => by cases h⟩

theorem Ev.put {o : Oper} {F : Tmp → Prop} {a : Act} {d : Option Tmp} {v : Value} {y : Option Value} (hs : ∀ cs b, o.op ≠ .select cs b) (h : ∀ t, d = some t → t ∉ o.looksAt ops) : Ev P ops C G R o F (a.put d v) y ↔ Ev P ops C G R o F a y := by
  cases y with
  | none => simp only [Ev, wanted_put o a d v h, opRel_put hs h, put_size]
  | some x => simp only [Ev, wanted_put o a d v h, opRel_put hs h, opPlain_put hs h]
theorem Ev.more {o : Oper} {F : Tmp → Prop} {a : Act} {t : Tmp} {y : Option Value} (h : t ∉ o.looksAt ops) : Ev P ops C G R o (more F t) a y ↔ Ev P ops C G R o F a y := by
  cases y with
  | none => simp only [Ev, opRel_more h]
  | some x => simp only [Ev, opRel_more h, opPlain_more h]

theorem Ev.same {o : Oper} {F : Tmp → Prop} {a : Act} {x : Value} {y : Option Value} (hk : KnownTo C R F a) (h : Ev P ops C G R o F a (some x)) (h' : Ev P ops C G R o F a y) : y = some x := by
  obtain ⟨w, hC, hK⟩ := hk
  cases y with
  | none =>
    obtain ⟨h1, t, r, h2, h3, -⟩ := h'
    rcases h with ⟨h4, -⟩ | ⟨-, (⟨h4, -⟩ | ⟨t', h4, h5, -⟩)⟩
    · rw [h1] at h4; cases h4
    · rw [h2] at h4; cases h4
    · rw [h2] at h4
      injection h4 with h4
      subst h4
      rw [h3] at h5
      cases h5
  | some y =>
    rcases h with ⟨h1, rfl⟩ | ⟨h1, (⟨h4, -, rfl⟩ | ⟨t, h4, h5, h6⟩)⟩ <;> rcases h' with ⟨k1, rfl⟩ | ⟨k1, (⟨k4, -, rfl⟩ | ⟨t', k4, k5, k6⟩)⟩
    · rfl
    · rfl
    · rw [h1] at k1; cases k1
    · rfl
    · rfl
    · rw [h4] at k4; cases k4
    · rw [h1] at k1; cases k1
    · rw [h4] at k4; cases k4
    · rw [plain_same (h6 w hC hK.leans) (k6 w hC hK.leans)]

theorem Ev.some_value (hR : Stable C G R) {o : Oper} {F : Tmp → Prop} {a : Act} {t : Tmp} (hk : KnownTo C R F a) (hf : ¬ F t) (ht : o.dst = some t) (h : Ev P ops C G R o F a none) : ∃ v, KnownTo C R (Go.Proofs.YtfiaoibfejginaaDoor.more F t) (a.put (some t) v) := by
  obtain ⟨w, hC, hK⟩ := hk
  obtain ⟨-, t', r, h2, h3, h4, h5⟩ := h
  rw [ht] at h2
  injection h2 with h2
  subst h2
  obtain ⟨u, w', hC', hG, hu⟩ := rel_some (h5 w hC hK.leans)
  exact ⟨u, w', hC', hK.made hR hC hC' hG hf h4 h3 hu⟩

theorem opAt_mono {o : Oper} {K K' : (Tmp → Prop) → Act → Prop} {F : Tmp → Prop} {a : Act} (hk : KnownTo C R F a) (hf : ∀ t, o.dst = some t → ¬ F t)
    (h : ∀ F1 a1, KnownTo C R F1 a1 → (F1 = F ∨ ∃ t, o.dst = some t ∧ F1 = more F t) → K F1 a1 → K' F1 a1) (hh : opAt P ops C G R o K F a) : opAt P ops C G R o K' F a := by
  rw [opAt_iff] at *
  rcases hh with ⟨x, h1, h2⟩ | ⟨h1, h2⟩
  · exact .inl ⟨x, h1, h _ _ ((KnownTo.put hf).2 hk) (.inl rfl) h2⟩
  · exact .inr ⟨h1, fun t ht v hv => h _ _ hv (.inr ⟨t, ht, rfl⟩) (h2 t ht v hv)⟩

theorem opAt_some (hR : Stable C G R) {o : Oper} {K : (Tmp → Prop) → Act → Prop} {F : Tmp → Prop} {a : Act} (hk : KnownTo C R F a) (hf : ∀ t, o.dst = some t → ¬ F t) (hh : opAt P ops C G R o K F a) : ∃ F' a', K F' a' := by
  rw [opAt_iff] at hh
  rcases hh with ⟨x, h1, h2⟩ | ⟨h1, h2⟩
  · exact ⟨_, _, h2⟩
  · obtain ⟨-, t, r, ht, -⟩ := id h1
    obtain ⟨v, hv⟩ := h1.some_value hR hk (hf t ht) ht
    exact ⟨_, _, h2 t ht v hv⟩

theorem opAt_swap (hR : Stable C G R) {oi oj : Oper} {K : (Tmp → Prop) → Act → Prop} {F : Tmp → Prop} {a : Act} (hap : oi.apart ops oj = true) (hsi : ∀ cs b, oi.op ≠ .select cs b) (hsj : ∀ cs b, oj.op ≠ .select cs b)
    (hk : KnownTo C R F a) (hfi : ∀ t, oi.dst = some t → ¬ F t) (hfj : ∀ t, oj.dst = some t → ¬ F t)
    (h : opAt P ops C G R oi (fun F1 a1 => opAt P ops C G R oj K F1 a1) F a) : opAt P ops C G R oj (fun F2 a2 => opAt P ops C G R oi K F2 a2) F a := by
  obtain ⟨a1, a2, a3⟩ := Oper.apart_spec hap
  have hne : ∀ s t, oi.dst = some s → oj.dst = some t → s ≠ t := fun s t hs ht e => a2 s hs (by rw [ht, e])
  have hmi : ∀ t, oj.dst = some t → ∀ s, oi.dst = some s → ¬ more F t s := fun t ht s hs => not_more (hfi s hs) (hne s t hs ht)
  have hmj : ∀ t, oi.dst = some t → ∀ s, oj.dst = some s → ¬ more F t s := fun t ht s hs => not_more (hfj s hs) (fun e => hne t s ht hs e.symm)
  simp only [opAt_iff] at *
  rcases h with ⟨x, h1, ⟨y, h2, h3⟩ | ⟨h2, h3⟩⟩ | ⟨h1, h3⟩
  · refine .inl ⟨y, (Ev.put hsj a1).1 h2, .inl ⟨x, (Ev.put hsi a3).2 h1, ?_⟩⟩
    rw [← Act.put_comm a x y a2]
    exact h3
  · refine .inr ⟨(Ev.put hsj a1).1 h2, fun t ht v hv => .inl ⟨x, ?_, ?_⟩⟩
    · exact (Ev.more (a3 t ht)).2 ((Ev.put hsi (fun s hs => by injection hs with hs; subst hs; exact a3 _ ht)).2 h1)
    · have e := Act.put_comm a (x := oi.dst) (y := some t) x v (fun d hd => by rw [← ht]; exact a2 d hd)
      rw [← e]
      refine h3 t ht v ?_
      rw [e]
      exact (KnownTo.put (hmi t ht)).2 hv
  · obtain ⟨-, t, r, ht, -⟩ := id h1
    have e : ∀ y v, (a.put (some t) v).put oj.dst y = (a.put oj.dst y).put (some t) v := fun y v => Act.put_comm a v y (fun d hd => by injection hd with hd; subst hd; exact a2 t ht)
    obtain ⟨v0, hv0⟩ := h1.some_value hR hk (hfi t ht) ht
    have down : ∀ v z, Ev P ops C G R oj (more F t) (a.put (some t) v) z → Ev P ops C G R oj F a z := fun v z hz => (Ev.put hsj (fun s hs => by injection hs with hs; subst hs; exact a1 _ ht)).1 ((Ev.more (a1 t ht)).1 hz)
    rcases h3 t ht v0 hv0 with ⟨y0, h4, h5⟩ | ⟨h4, h5⟩
    · refine .inl ⟨y0, down _ _ h4, .inr ⟨(Ev.put hsi a3).2 h1, fun t' ht' v hv => ?_⟩⟩
      obtain rfl : t = t' := by rw [ht] at ht'; injection ht'
      rw [← e] at hv ⊢
      have hv' := (KnownTo.put (hmj t ht)).1 hv
      rcases h3 t ht v hv' with ⟨y, h6, h7⟩ | ⟨h6, h7⟩
      · have h8 := Ev.same hk (down _ _ h4) (down _ _ h6)
        injection h8 with h8
        rw [h8] at h7
        exact h7
      · have h8 := Ev.same hk (down _ _ h4) (down _ _ h6)
        cases h8
    · refine .inr ⟨down _ _ h4, fun s hs u hu => .inr ⟨?_, fun t' ht' v hv => ?_⟩⟩
      · exact (Ev.more (a3 s hs)).2 ((Ev.put hsi (fun s' hs' => by injection hs' with hs'; subst hs'; exact a3 _ hs)).2 h1)
      · obtain rfl : t = t' := by rw [ht] at ht'; injection ht'
        have e2 : (a.put (some t) v).put (some s) u = (a.put (some s) u).put (some t) v := by rw [← hs]; exact e u v
        rw [more_comm, ← e2] at hv ⊢
        have hv' : KnownTo C R (more F t) (a.put (some t) v) := by
          obtain ⟨w, hC, hK⟩ := hv
          exact ⟨w, hC, (Knows.put (d := some s) (fun s' hs' => by injection hs' with hs'; subst hs'; exact hmj t ht _ hs)).1 hK.less⟩
        rcases h3 t ht v hv' with ⟨y, h6, h7⟩ | ⟨h6, h7⟩
        · have h8 := Ev.same hk (down _ _ h6) (down _ _ h4)
          cases h8
        · exact h7 s hs u hv

theorem fresh_next (hD : ∀ (k k' : Nat) (o o' : Oper) (t : Tmp), ops[k]? = some o → ops[k']? = some o' → o.dst = some t → o'.dst = some t → k = k') {listed : Array Bool} {F F1 : Tmp → Prop} {i : Nat} {oi : Oper} (hi : ops[i]? = some oi) (hun : listed.getD i true = false)
    (hf : ∀ (k : Nat) (o : Oper) (t : Tmp), ops[k]? = some o → listed.getD k true = false → o.dst = some t → ¬ F t) (h1 : F1 = F ∨ ∃ t, oi.dst = some t ∧ F1 = more F t) :
    ∀ (k : Nat) (o : Oper) (t : Tmp), ops[k]? = some o → (listed.setIfInBounds i true).getD k true = false → o.dst = some t → ¬ F1 t := by
  intro k o t hk hl ht
  have hki : i ≠ k := fun e => by
    subst e
    have : i < listed.size := by
      rcases Nat.lt_or_ge i listed.size with h' | h'
      · exact h'
      · simp [Array.getElem?_eq_none h'] at hun
    simp [this] at hl
  rw [getD_set_ne true hki] at hl
  rcases h1 with rfl | ⟨s, hs, rfl⟩
  · exact hf k o t hk hl ht
  · exact not_more (hf k o t hk hl ht) (fun e => hki (hD i k oi o s hi hk hs (by rw [ht, e])))

theorem anyR_first (hR : Stable C G R) (hD : ∀ (k k' : Nat) (o o' : Oper) (t : Tmp), ops[k]? = some o → ops[k']? = some o' → o.dst = some t → o'.dst = some t → k = k') (hsel : ∀ (j : Nat) (o : Oper) cs b, ops[j]? = some o → o.op ≠ .select cs b) {i : Nat} {oi : Oper} (hi : ops[i]? = some oi) :
    ∀ (n : Nat) (listed : Array Bool) (F : Tmp → Prop) (a : Act),
      (∀ j oj, ops[j]? = some oj → j ≠ i → listed.getD j true = false → (∀ e ∈ oj.after, Region.binds md e = true → e.on ≠ i) → oi.apart ops oj = true) →
      i ∈ Region.ready md ops listed → (∀ (k : Nat) (o : Oper) (t : Tmp), ops[k]? = some o → listed.getD k true = false → o.dst = some t → ¬ F t) → KnownTo C R F a →
      opAt P ops C G R oi (anyR P ops C G R md E n (listed.setIfInBounds i true)) F a → anyR P ops C G R md E (n + 1) listed F a := by
  intro n
  induction n with
  | zero =>
    intro listed F a _ hr hf hk H
    have hun := (mem_ready.1 hr).1
    refine ⟨fun h => (by rw [h] at hr; cases hr), fun j hj oj hoj => ?_⟩
    by_cases hji : j = i
    · subst hji
      rw [hi] at hoj
      injection hoj with hoj
      subst hoj
      exact H
    · obtain ⟨F', a', h0, -⟩ := opAt_some hR hk (fun t ht => hf i oi t hi hun ht) H
      have := ready_mono hj hji
      rw [h0] at this
      cases this
  | succ n ih =>
    intro listed F a hfree hr hf hk H
    have hun := (mem_ready.1 hr).1
    refine ⟨fun h => (by rw [h] at hr; cases hr), fun j hj oj hoj => ?_⟩
    by_cases hji : j = i
    · subst hji
      rw [hi] at hoj
      injection hoj with hoj
      subst hoj
      exact H
    · obtain ⟨hjun, oj', hoj', hall⟩ := mem_ready.1 hj
      rw [hoj] at hoj'
      injection hoj' with hoj'
      subst hoj'
      have hnot : ∀ e ∈ oj.after, Region.binds md e = true → e.on ≠ i := fun e he hb heq => by
        have h1 := hall e he hb
        rw [heq] at h1
        rcases Nat.lt_or_ge i listed.size with h' | h'
        · simp [h'] at hun h1; rw [hun] at h1; cases h1
        · simp [Array.getElem?_eq_none h'] at h1
      have hap := hfree j oj hoj hji hjun hnot
      have hfi : ∀ t, oi.dst = some t → ¬ F t := fun t ht => hf i oi t hi hun ht
      have hfj : ∀ t, oj.dst = some t → ¬ F t := fun t ht => hf j oj t hoj hjun ht
      have h1 := opAt_swap hR (K := anyR P ops C G R md E n ((listed.setIfInBounds i true).setIfInBounds j true)) hap (fun cs b => hsel i oi cs b hi) (fun cs b => hsel j oj cs b hoj) hk hfi hfj
        (opAt_mono hk hfi (fun F1 a1 _ _ h2 => h2.2 j (ready_mono hj hji) oj hoj) H)
      refine opAt_mono hk hfj (fun F1 a1 hk1 hF1 h2 => ?_) h1
      rw [Array.setIfInBounds_comm _ _ (Ne.symm hji)] at h2
      refine ih (listed.setIfInBounds j true) F1 a1 (fun k ok hok hki hun' hno => ?_) (ready_mono hr (Ne.symm hji)) (fresh_next hD hoj hjun hf hF1) hk1 h2
      refine hfree k ok hok hki ?_ hno
      by_cases hjk : j = k
      · subst hjk; exact hjun
      · rw [getD_set_ne true hjk] at hun'; exact hun'

theorem walkR_any (hR : Stable C G R) (hD : ∀ (k k' : Nat) (o o' : Oper) (t : Tmp), ops[k]? = some o → ops[k']? = some o' → o.dst = some t → o'.dst = some t → k = k') (hs : Region.noSelect ops = true) :
    ∀ (l : List Oper) (k : Nat) (listed : Array Bool) (F : Tmp → Prop) (a : Act), (∀ j, l[j]? = ops[k + j]?) → Region.lexFrom md ops l.length k listed = true →
      (∀ (k : Nat) (o : Oper) (t : Tmp), ops[k]? = some o → listed.getD k true = false → o.dst = some t → ¬ F t) → KnownTo C R F a → walkR P ops C G R E l F a → anyR P ops C G R md E l.length listed F a
  | [], _, _, _, _, _, hB, _, _, h => ⟨by simpa [Region.lexFrom] using hB, h⟩
  | o :: l, k, listed, F, a, hl, hB, hf, hk, h => by
    have h0 : ops[k]? = some o := by simpa using (hl 0).symm
    simp only [List.length_cons, Region.lexFrom, Bool.and_eq_true] at hB
    obtain ⟨⟨hr, hfr⟩, hB'⟩ := hB
    have hr' : k ∈ Region.ready md ops listed := by simpa using hr
    have hun := (mem_ready.1 hr').1
    refine anyR_first hR hD (Region.noSelect_spec hs) h0 l.length listed F a (Region.free_spec h0 hfr) hr' hf hk ?_
    refine opAt_mono hk (fun t ht => hf k o t h0 hun ht) (fun F1 a1 hk1 hF1 h2 => ?_) (show opAt P ops C G R o (walkR P ops C G R E l) F a from h)
    exact walkR_any hR hD hs l (k + 1) _ F1 a1 (fun j => by have := hl (j + 1); simpa [Nat.add_assoc, Nat.add_comm 1 j] using this) hB' (fresh_next hD h0 hun hf hF1) hk1 h2

/-- No two operations write one temporary. -/
def apartDst (l : List Oper) : Bool := (List.range l.length).all fun k => (List.range l.length).all fun k' => k == k' || match (l[k]?).bind (·.dst), (l[k']?).bind (·.dst) with
  | some s, some t => s != t
  | _, _ => true
theorem apartDst_spec {l : List Oper} (h : apartDst l = true) (k k' : Nat) (o o' : Oper) (t : Tmp) (ho : l.toArray[k]? = some o) (ho' : l.toArray[k']? = some o') (hd : o.dst = some t) (hd' : o'.dst = some t) : k = k' := by
  simp only [List.getElem?_toArray] at ho ho'
  have hk : k < l.length := (List.getElem?_eq_some_iff.1 ho).1
  have hk' : k' < l.length := (List.getElem?_eq_some_iff.1 ho').1
  simp only [apartDst, List.all_eq_true, List.mem_range] at h
  have h1 := h k hk k' hk'
  rw [ho, ho'] at h1
  simp only [Option.bind_some, hd, hd', bne_self_eq_false, Bool.or_false, beq_iff_eq] at h1
  exact h1

/-- **A region whose operations are written out, in a class of worlds, with relations.** -/
theorem wp_region_rel {P : Program} (C : World → Prop) (G : World → World → Prop) (R : Tmp → Option (Value → World → Prop)) {id : Nat} {Q : Exit → Act → World → Prop} {a : Act} {w : World} {l : List Oper}
    (hm : P.follows .mixedOrders = true) (hB : Region.lexB .any l.toArray = true) (hA : apartDst l = true) (hR : Stable C G R) (hC : C w.drew)
    (h : walkR P l.toArray C G R (fun F a' => ∀ w', C w' → Knows R F a' w' → Q .normal a' w') l (fun _ => False) a) : (Code.region id l.toArray true).wp P Q a w := by
  simp only [Region.lexB, Bool.and_eq_true] at hB
  have hD := apartDst_spec hA
  have hk : ∀ w, Knows R (fun _ => False) a w := fun w s hs => hs.elim
  refine wp_region_any hm (wpAny_of_anyR hR (E := fun F a' => ∀ w', C w' → Knows R F a' w' → Q .normal a' w') (fun F a w hC hK h => h w hC hK) hD _ _ (fun _ => False) a _ (fun _ _ _ _ _ _ h => h) hC (hk _) ?_)
  have := walkR_any (md := .any) hR hD hB.1 l 0 (Array.replicate l.toArray.size false) (fun _ => False) a (by simp) (by simpa using hB.2) (fun _ _ _ _ _ _ h => h) ⟨_, hC, hk _⟩ h
  simpa using this
end
end Go.Proofs.YtfiaoibfejginaaDoor
