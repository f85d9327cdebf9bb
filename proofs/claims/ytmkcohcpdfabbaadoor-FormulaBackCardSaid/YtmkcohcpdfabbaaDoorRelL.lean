/- A region that draws its order and whose last operation waits for all others: the others go by relations (XRel), the last one is carried out behind them, in the world that they leave. -/
import Derived.Test.YtmkcohcpdfabbaaDoorRelT
namespace Go.Proofs.YtmkcohcpdfabbaaDoor
set_option linter.unusedVariables false
set_option linter.unusedSimpArgs false
open Go Go.RowKit

/-- The operation made idle: it waits for what it waited for, and does nothing. -/
def idle (o : Oper) : Oper := { o with op := .move (.const (.bool true)) }
def idleLast : List Oper → List Oper
  | [] => []
  | o :: l => match l with
    | [] => [idle o]
    | _ :: _ => o :: idleLast l

theorem idleLast_len : ∀ l, (idleLast l).length = l.length
  | [] => rfl
  | [_] => rfl
  | o :: p :: l => by
    show (idleLast (p :: l)).length + 1 = _
    rw [idleLast_len (p :: l)]
    rfl
theorem idleLast_get : ∀ (l : List Oper) (j : Nat), (idleLast l)[j]? = if j + 1 = l.length then (l[j]?).map idle else l[j]?
  | [], j => by simp [idleLast]
  | [o], j => by
    cases j with
    | zero => rfl
    | succ j => simp [idleLast]
  | o :: p :: l, j => by
    cases j with
    | zero => simp [idleLast]
    | succ j =>
      show (idleLast (p :: l))[j]? = _
      rw [idleLast_get (p :: l) j]
      simp

/-- Each operation but the last is waited for by a later one; and none waits for a later one. -/
def lastB (ops : Array Oper) : Bool :=
  ((List.range (ops.size - 1)).all fun j => (List.range ops.size).any fun m => decide (j < m) && ((ops[m]?).map fun o => o.after.any fun e => Region.binds .any e && e.on == j).getD false) &&
  ((List.range ops.size).all fun m => ((ops[m]?).map fun o => o.after.all fun e => !Region.binds .any e || decide (e.on < m)).getD true)

def Closed (ops : Array Oper) (listed : Array Bool) : Prop := listed.size = ops.size ∧ ∀ (i : Nat) (o : Oper), ops[i]? = some o → listed.getD i false = true → ∀ e ∈ o.after, Region.binds .any e = true → listed.getD e.on false = true

theorem getD_false_true {listed : Array Bool} {j : Nat} (hj : j < listed.size) : listed.getD j true = listed.getD j false := by simp [hj]

theorem Closed.set {ops : Array Oper} {listed : Array Bool} (h : Closed ops listed) {i : Nat} (hi : i ∈ Region.ready .any ops listed) : Closed ops (listed.setIfInBounds i true) := by
  obtain ⟨hun, o, ho, hall⟩ := mem_ready.1 hi
  have up : ∀ j, listed.getD j false = true → (listed.setIfInBounds i true).getD j false = true := fun j hj => by
    by_cases e : i = j
    · subst e
      have : i < listed.size := by
        rcases Nat.lt_or_ge i listed.size with h' | h'
        · exact h'
        · simp [Array.getElem?_eq_none h'] at hun
      simp [this]
    · rw [getD_set_ne false e]
      exact hj
  refine ⟨by simpa using h.1, fun k ok hok hk e he hb => ?_⟩
  by_cases e' : i = k
  · subst e'
    rw [ho] at hok
    injection hok with hok
    subst hok
    exact up _ (hall e he hb)
  · rw [getD_set_ne false e'] at hk
    exact up _ (h.2 k ok hok hk e he hb)

theorem all_listed {ops : Array Oper} (hB : lastB ops = true) {listed : Array Bool} (h : Closed ops listed) (hr : ops.size - 1 ∈ Region.ready .any ops listed) : ∀ j, j + 1 < ops.size → listed.getD j false = true := by
  unfold lastB at hB
  rw [Bool.and_eq_true] at hB
  have h1 := List.all_eq_true.1 hB.1
  obtain ⟨hun, o, ho, hall⟩ := mem_ready.1 hr
  have key : ∀ d j, j + 1 + d = ops.size - 1 + 0 + 1 - 0 → j + 1 < ops.size → listed.getD j false = true := by
    intro d
    induction d using Nat.strongRecOn with
    | _ d ih =>
      intro j hd hj
      have h2 := h1 j (List.mem_range.2 (by omega))
      obtain ⟨m, hm, h3⟩ := List.any_eq_true.1 h2
      rw [List.mem_range] at hm
      rw [Bool.and_eq_true, decide_eq_true_eq] at h3
      obtain ⟨hjm, h4⟩ := h3
      cases ho' : ops[m]? with
      | none => rw [ho'] at h4; cases h4
      | some o' =>
        rw [ho'] at h4
        simp only [Option.map_some, Option.getD_some, Array.any_eq_true] at h4
        obtain ⟨q, hq, h5⟩ := h4
        rw [Bool.and_eq_true, beq_iff_eq] at h5
        have hmem := Array.getElem_mem hq
        by_cases e : m = ops.size - 1
        · subst e
          rw [ho] at ho'
          injection ho' with ho'
          subst ho'
          rw [← h5.2]
          exact hall _ hmem h5.1
        · have h6 := ih (ops.size - 1 + 1 - (m + 1)) (by omega) m (by omega) (by omega)
          rw [← h5.2]
          exact h.2 m o' ho' h6 _ hmem h5.1
  exact fun j hj => key (ops.size - 1 + 1 - (j + 1)) j (by omega) hj

theorem ready_nonempty {ops : Array Oper} (hB : lastB ops = true) {listed : Array Bool} (hs : listed.size = ops.size) {k : Nat} (hk : k < ops.size) (hun : listed.getD k true = false) : Region.ready .any ops listed ≠ [] := by
  unfold lastB at hB
  rw [Bool.and_eq_true] at hB
  have h1 := List.all_eq_true.1 hB.2
  have key : ∀ k, k < ops.size → listed.getD k true = false → ∃ m, m ∈ Region.ready .any ops listed := by
    intro k
    induction k using Nat.strongRecOn with
    | _ k ih =>
      intro hk hun
      by_cases hr : k ∈ Region.ready .any ops listed
      · exact ⟨k, hr⟩
      · have ho : ops[k]? = some ops[k] := Array.getElem?_eq_getElem hk
        have h2 : ¬ ∀ e ∈ ops[k].after, Region.binds .any e = true → listed.getD e.on false = true := fun hall => hr (mem_ready.2 ⟨hun, _, ho, hall⟩)
        simp only [Classical.not_forall] at h2
        obtain ⟨e, he, hb, hne⟩ := h2
        have h3 := h1 k (List.mem_range.2 hk)
        rw [ho] at h3
        simp only [Option.map_some, Option.getD_some] at h3
        have h4 := Array.all_eq_true_iff_forall_mem.1 h3 e he
        rw [hb] at h4
        have hlt : e.on < k := by simpa using h4
        exact ih e.on hlt (by omega) (by rw [getD_false_true (by omega)]; simpa using hne)
  obtain ⟨m, hm⟩ := key k hk hun
  intro h0
  rw [h0] at hm
  cases hm

/-- What is asked behind all operations but the last. -/
def lastQ (P : Program) (ops : Array Oper) (o : Oper) (Q : Exit → Act → World → Prop) : Exit → Act → World → Prop
  | .normal, a, w => wpList P ops Q [o] a w
  | e, a, w => Q e a w

theorem lets_last {P : Program} {ops : Array Oper} {o : Oper} {Q : Exit → Act → World → Prop} (h : LetsOut (lastQ P ops o Q)) : LetsOut Q := h

theorem wp_last {P : Program} {ops : Array Oper} {o p : Oper} {Q : Exit → Act → World → Prop} {a : Act} {w : World} {K K' : Act → World → Prop} (hK : ∀ a w, K a w → K' a w) (h : p.wp P a w K (lastQ P ops o Q)) : p.wp P a w K' Q := by
  unfold Oper.wp at *
  generalize (execOp a.eval p).run P w = x at *
  unfold Oper.upon at *
  split at h
  · exact hK _ _ h
  · exact hK _ _ h
  · exact hK _ _ h
  · refine h.mono fun e w' h' => ?_
    cases e with
    | returned v => exact hK _ _ h'
    | panicked c => exact h'
    | outgrown => exact h'
  · exact h.mono fun v w' h' => hK _ _ h'
  · exact h
  · exact h.elim

section
variable {P : Program} {l : List Oper} {o : Oper} {Q : Exit → Act → World → Prop}

theorem ready_idle (listed : Array Bool) : Region.ready .any (idleLast l).toArray listed = Region.ready .any l.toArray listed := by
  unfold Region.ready
  have e : (idleLast l).toArray.size = l.toArray.size := by simp [idleLast_len]
  rw [e]
  refine List.filter_congr fun i hi => ?_
  have : (((idleLast l).toArray)[i]?).map (·.after) = (l.toArray[i]?).map (·.after) := by
    simp only [List.getElem?_toArray, idleLast_get]
    split
    · cases l[i]? <;> rfl
    · rfl
  congr 1
  cases h1 : (idleLast l).toArray[i]? with
  | none =>
    rw [h1] at this
    cases h2 : l.toArray[i]? with
    | none => rfl
    | some x => rw [h2] at this; cases this
  | some y =>
    rw [h1] at this
    cases h2 : l.toArray[i]? with
    | none => rw [h2] at this; cases this
    | some x =>
      rw [h2] at this
      simp only [Option.map_some, Option.some.injEq] at this
      simp only [Option.map_some, Option.getD_some, this]

theorem dst_idle (i : Nat) : ((idleLast l).toArray[i]?).bind (fun o : Oper => o.dst) = (l.toArray[i]?).bind (fun o : Oper => o.dst) := by
  simp only [List.getElem?_toArray, idleLast_get]
  split
  · cases l[i]? <;> rfl
  · rfl
theorem yielded_idle (tmps : Array Value) : yielded (idleLast l).toArray tmps = yielded l.toArray tmps := by
  funext i
  unfold yielded
  rw [dst_idle (l := l) i]

theorem wpAny_last (hB : lastB l.toArray = true) (hl : l.getLast? = some o) (hd : o.dst = none) : ∀ (n : Nat) (listed : Array Bool) (a : Act) (w : World), Closed l.toArray listed → listed.getD (l.length - 1) true = false →
    wpAny P .any (idleLast l).toArray (lastQ P l.toArray o Q) n listed a w → wpAny P .any l.toArray Q n listed a w
  | 0, listed, a, w, hc, hun, h => by
    have hne : 0 < l.length := by
      cases l with
      | nil => simp at hl
      | cons x r => simp
    have h1 := h.1
    rw [ready_idle] at h1
    exact absurd h1 (ready_nonempty hB hc.1 (k := l.length - 1) (by simp; omega) hun)
  | n + 1, listed, a, w, hc, hun, h => by
    have hne : 0 < l.length := by
      cases l with
      | nil => simp at hl
      | cons x r => simp
    refine ⟨fun h0 => absurd h0 (ready_nonempty hB hc.1 (k := l.length - 1) (by simp; omega) hun), fun i hi => ?_⟩
    have h2 := h.2 i (by rw [ready_idle]; exact hi)
    have hlast : l[l.length - 1]? = some o := by rw [← List.getLast?_eq_getElem?]; exact hl
    by_cases hil : i = l.length - 1
    · subst hil
      -- the last operation: nothing is ready behind it
      have hsz : l.toArray.size - 1 = l.length - 1 := by simp
      have hall := all_listed hB hc (by rw [hsz]; exact hi)
      have hend : Region.ready .any l.toArray (listed.setIfInBounds (l.length - 1) true) = [] := by
        rw [List.eq_nil_iff_forall_not_mem]
        intro j hj
        obtain ⟨hjun, oj, hoj, -⟩ := mem_ready.1 hj
        have hjs : j < l.toArray.size := (Array.getElem?_eq_some_iff.1 hoj).1
        have hls : listed.size = l.toArray.size := hc.1
        by_cases e : l.length - 1 = j
        · subst e
          have : l.length - 1 < listed.size := by omega
          simp [this] at hjun
        · rw [getD_set_ne true e, getD_false_true (by omega), hall j (by simp at hjs ⊢; omega)] at hjun
          cases hjun
      have fin : ∀ (m : Nat) (a' : Act) (w' : World), Q .normal a' w' → wpAny P .any l.toArray Q m (listed.setIfInBounds (l.length - 1) true) a' w' := fun m a' w' hq => by
        cases m with
        | zero => exact ⟨hend, hq⟩
        | succ m => exact ⟨fun _ => hq, fun j hj => by rw [hend] at hj; cases hj⟩
      have unfin : wpAny P .any (idleLast l).toArray (lastQ P l.toArray o Q) n (listed.setIfInBounds (l.length - 1) true) a w → wpList P l.toArray Q [o] a w := fun hh => by
        cases n with
        | zero => exact hh.2
        | succ m => exact hh.1 (by rw [ready_idle]; exact hend)
      have hidle : (idleLast l).toArray[l.length - 1]? = some (idle o) := by
        rw [List.getElem?_toArray, idleLast_get, if_pos (by omega), hlast]
        rfl
      have hgo : wpList P l.toArray Q [o] a w := by
        refine unfin ?_
        unfold wpOp at h2
        rw [hidle] at h2
        simp only at h2
        have hput : ∀ v, a.put (idle o).dst v = a := fun v => by
          show a.put o.dst v = a
          rw [hd]
          rfl
        split at h2
        · rcases h2 with h3 | ⟨h3, -⟩
          · have h4 : wpAny P .any (idleLast l).toArray (lastQ P l.toArray o Q) n (listed.setIfInBounds (l.length - 1) true) (a.put (idle o).dst (.bool true)) w := h3
            rw [hput] at h4
            exact h4
          · exact absurd h3 (by
              intro h5
              have : (execOp a.eval (idle o)).run P w = .ok (.value (.bool true)) w := rfl
              unfold Oper.asks at h5
              have h6 : (Sem.runT P (execOp a.eval (idle o)) w #[]).snd = #[] := rfl
              rw [h6] at h5
              exact absurd h5.1 (by simp))
        · rw [hput] at h2
          exact h2
      unfold wpOp
      rw [List.getElem?_toArray, hlast]
      simp only
      unfold wpList at hgo
      split at hgo
      · rename_i hw
        rw [if_pos hw]
        rcases hgo with h3 | h3
        · exact .inl (Oper.wp_mono (fun a' w' hq => fin n a' w' hq) h3)
        · exact .inr h3
      · rename_i hw
        rw [if_neg hw]
        exact fin n _ _ hgo
    · have hgeti : (idleLast l).toArray[i]? = l.toArray[i]? := by
        rw [List.getElem?_toArray, idleLast_get, if_neg (by omega), List.getElem?_toArray]
      have hrec : ∀ a' w', wpAny P .any (idleLast l).toArray (lastQ P l.toArray o Q) n (listed.setIfInBounds i true) a' w' → wpAny P .any l.toArray Q n (listed.setIfInBounds i true) a' w' :=
        fun a' w' hh => wpAny_last hB hl hd n _ a' w' (hc.set hi) (by rw [getD_set_ne true hil]; exact hun) hh
      unfold wpOp at h2 ⊢
      rw [hgeti, yielded_idle] at h2
      cases ho : l.toArray[i]? with
      | none =>
        rw [ho] at h2
        exact hrec _ _ h2
      | some p =>
        rw [ho] at h2
        simp only at h2 ⊢
        split at h2
        · rename_i hw
          rw [if_pos hw]
          rcases h2 with h3 | ⟨h3, h4⟩
          · exact .inl (wp_last hrec h3)
          · exact .inr ⟨h3, h4⟩
        · rename_i hw
          rw [if_neg hw]
          exact hrec _ _ h2

theorem rep_false (n i : Nat) : (Array.replicate n false).getD i false = false := by
  unfold Array.getD
  split <;> simp
theorem rep_true {n i : Nat} (h : i < n) : (Array.replicate n false).getD i true = false := by
  unfold Array.getD
  rw [dif_pos (by simpa using h)]
  simp

/-- **A region whose last operation waits for all others.** -/
theorem wp_region_last (C : World → Prop) (G : World → World → Prop) (R : Tmp → Option (Value → World → Prop)) {id : Nat} {a : Act} {w : World} (o : Oper) (hl : l.getLast? = some o) (hd : o.dst = none)
    (hm : P.follows .mixedOrders = true) (hL : lastB l.toArray = true) (hB : Region.lexB .any (idleLast l).toArray = true) (hA : apartDst (idleLast l) = true) (hR : Stable C G R) (hC : C w.drew)
    (h : walkR P (idleLast l).toArray C G R (fun F a' => ∀ w', C w' → Knows R F a' w' → wpList P l.toArray Q [o] a' w') (idleLast l) (fun _ => False) a) : (Code.region id l.toArray true).wp P Q a w := by
  simp only [Region.lexB, Bool.and_eq_true] at hB
  have hD := apartDst_spec hA
  have hk : ∀ w, Knows R (fun _ => False) a w := fun w s hs => hs.elim
  refine wp_region_any hm ?_
  have hsz : l.toArray.size = (idleLast l).toArray.size := by simp [idleLast_len]
  have hne : 0 < l.length := by
    cases l with
    | nil => simp at hl
    | cons x r => simp
  refine wpAny_last hL hl hd _ _ _ _ ⟨by simp, fun i o' _ hi => by rw [rep_false] at hi; cases hi⟩ (rep_true (by simp; omega)) ?_
  rw [hsz]
  refine wpAny_of_anyR hR (E := fun F a' => ∀ w', C w' → Knows R F a' w' → wpList P l.toArray Q [o] a' w') (fun F a w hC hK h => h w hC hK) hD _ _ (fun _ => False) a _ (fun _ _ _ _ _ _ h => h) hC (hk _) ?_
  have := walkR_any (md := .any) hR hD hB.1 (idleLast l) 0 (Array.replicate (idleLast l).toArray.size false) (fun _ => False) a (by simp) (by simpa using hB.2) (fun _ _ _ _ _ _ h => h) ⟨_, hC, hk _⟩ h
  simpa using this

/-- The idle operation. -/
theorem walkR_idle {C : World → Prop} {G : World → World → Prop} {R : Tmp → Option (Value → World → Prop)} {E : (Tmp → Prop) → Act → Prop} {F : Tmp → Prop} {a : Act} (hd : o.dst = none) (hG : ∀ w, C w → G w w) (h : E F a) : walkR P l.toArray C G R E [idle o] F a := by
  show opAt P l.toArray C G R (idle o) E F a
  have hput : ∀ v, a.put (idle o).dst v = a := fun v => by show a.put o.dst v = a; rw [hd]; rfl
  refine ⟨fun _ => ?_, fun _ => by rw [hput]; exact h⟩
  unfold opDo
  have hd' : (idle o).dst = none := hd
  rw [hd']
  exact ⟨fun w hC _ => ⟨hC, hG w hC, trivial⟩, h⟩
end
end Go.Proofs.YtmkcohcpdfabbaaDoor
