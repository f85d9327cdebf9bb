/- A region that draws its order and ends in operations that follow each other, each of which waits for all before it (stores): all before those go by relations (XRelD), those are carried out behind them, in the world that they leave. -/
import Derived.Test.YtfiaoibfejginaaDoorRelD
namespace Go.Proofs.YtfiaoibfejginaaDoor.Own
set_option linter.unusedVariables false
set_option linter.unusedSimpArgs false
open Go

/-- The operation made idle: it waits for what it waited for, and does nothing. -/
def idle (o : Oper) : Oper := { o with op := .move (.const (.bool true)), dst := none }
/-- All from number m on are idle. -/
def idleTail : Nat → List Oper → List Oper
  | _, [] => []
  | 0, o :: l => idle o :: idleTail 0 l
  | m + 1, o :: l => o :: idleTail m l

theorem idleTail_get : ∀ (m : Nat) (l : List Oper) (j : Nat), (idleTail m l)[j]? = if m ≤ j then (l[j]?).map idle else l[j]?
  | m, [], j => by cases m <;> simp [idleTail]
  | 0, o :: l, j => by
    cases j with
    | zero => rfl
    | succ j =>
      show (idleTail 0 l)[j]? = _
      rw [idleTail_get 0 l j]
      simp
  | m + 1, o :: l, j => by
    cases j with
    | zero => simp [idleTail]
    | succ j =>
      show (idleTail m l)[j]? = _
      rw [idleTail_get m l j]
      simp
theorem idleTail_len (m : Nat) (l : List Oper) : (idleTail m l).length = l.length := by
  induction l generalizing m with
  | nil => cases m <;> rfl
  | cons o l ih => cases m <;> simp [idleTail, ih]

/-- Each operation before number m is waited for by a later one, up to m; none waits for a later one; each behind m waits for the one before it. -/
def tailB (m : Nat) (ops : Array Oper) : Bool :=
  ((List.range m).all fun j => (List.range (m + 1)).any fun k => decide (j < k) && ((ops[k]?).map fun o => o.after.any fun e => Region.binds .any e && e.on == j).getD false) &&
  (((List.range ops.size).all fun k => ((ops[k]?).map fun o => o.after.all fun e => !Region.binds .any e || decide (e.on < k)).getD true) &&
  ((List.range ops.size).all fun k => decide (k ≤ m) || ((ops[k]?).map fun o => o.after.any fun e => Region.binds .any e && e.on + 1 == k).getD false))

def Closed (ops : Array Oper) (listed : Array Bool) : Prop := listed.size = ops.size ∧ ∀ (i : Nat) (o : Oper), ops[i]? = some o → listed.getD i false = true → ∀ e ∈ o.after, Region.binds .any e = true → listed.getD e.on false = true

theorem getD_false_true {listed : Array Bool} {j : Nat} (hj : j < listed.size) : listed.getD j true = listed.getD j false := by simp [hj]

theorem Closed.set {ops : Array Oper} {listed : Array Bool} (h : Closed ops listed) {i : Nat} (hi : i ∈ Region.ready .any ops listed) : Closed ops (listed.setIfInBounds i true) := by
  obtain ⟨hun, o, ho, hall⟩ := mem_ready.1 hi
  have up : ∀ j, listed.getD j false = true → (listed.setIfInBounds i true).getD j false = true := fun j hj => by
    by_cases e : i = j
    · subst e
      have : i < listed.size := by
        rcases Nat.lt_or_ge i listed.size with h' | h'
        · exact h'
        · simp [Array.getElem?_eq_none h'] at hun
      simp [this]
    · rw [getD_set_ne false e]
      exact hj
  refine ⟨by simpa using h.1, fun k ok hok hk e he hb => ?_⟩
  by_cases e' : i = k
  · subst e'
    rw [ho] at hok
    injection hok with hok
    subst hok
    exact up _ (hall e he hb)
  · rw [getD_set_ne false e'] at hk
    exact up _ (h.2 k ok hok hk e he hb)

theorem all_listed {m : Nat} {ops : Array Oper} (hB : tailB m ops = true) (hm : m < ops.size) {listed : Array Bool} (h : Closed ops listed) (hr : m ∈ Region.ready .any ops listed) : ∀ j, j < m → listed.getD j false = true := by
  unfold tailB at hB
  rw [Bool.and_eq_true] at hB
  have h1 := List.all_eq_true.1 hB.1
  obtain ⟨hun, o, ho, hall⟩ := mem_ready.1 hr
  have key : ∀ d j, j + 1 + d = m + 1 → j < m → listed.getD j false = true := by
    intro d
    induction d using Nat.strongRecOn with
    | _ d ih =>
      intro j hd hj
      have h2 := h1 j (List.mem_range.2 hj)
      obtain ⟨k, hk, h3⟩ := List.any_eq_true.1 h2
      rw [List.mem_range] at hk
      rw [Bool.and_eq_true, decide_eq_true_eq] at h3
      obtain ⟨hjk, h4⟩ := h3
      cases ho' : ops[k]? with
      | none => rw [ho'] at h4; cases h4
      | some o' =>
        rw [ho'] at h4
        simp only [Option.map_some, Option.getD_some, Array.any_eq_true] at h4
        obtain ⟨q, hq, h5⟩ := h4
        rw [Bool.and_eq_true, beq_iff_eq] at h5
        have hmem := Array.getElem_mem hq
        by_cases e : k = m
        · subst e
          rw [ho] at ho'
          injection ho' with ho'
          subst ho'
          rw [← h5.2]
          exact hall _ hmem h5.1
        · have h6 := ih (m + 1 - (k + 1)) (by omega) k (by omega) (by omega)
          rw [← h5.2]
          exact h.2 k o' ho' h6 _ hmem h5.1
  exact fun j hj => key (m + 1 - (j + 1)) j (by omega) hj

theorem earlier {m : Nat} {ops : Array Oper} (hB : tailB m ops = true) {k : Nat} {o : Oper} (ho : ops[k]? = some o) : ∀ e ∈ o.after, Region.binds .any e = true → e.on < k := fun e he hb => by
  unfold tailB at hB
  rw [Bool.and_eq_true, Bool.and_eq_true] at hB
  have hk : k < ops.size := (Array.getElem?_eq_some_iff.1 ho).1
  have h3 := List.all_eq_true.1 hB.2.1 k (List.mem_range.2 hk)
  rw [ho] at h3
  simp only [Option.map_some, Option.getD_some] at h3
  have h4 := Array.all_eq_true_iff_forall_mem.1 h3 e he
  rw [hb] at h4
  simpa using h4
theorem waits {m : Nat} {ops : Array Oper} (hB : tailB m ops = true) {k : Nat} {o : Oper} (ho : ops[k]? = some o) (hk : m < k) : ∃ e ∈ o.after, Region.binds .any e = true ∧ e.on + 1 = k := by
  unfold tailB at hB
  rw [Bool.and_eq_true, Bool.and_eq_true] at hB
  have hks : k < ops.size := (Array.getElem?_eq_some_iff.1 ho).1
  have h3 := List.all_eq_true.1 hB.2.2 k (List.mem_range.2 hks)
  rw [ho, decide_eq_false (by omega), Bool.false_or] at h3
  simp only [Option.map_some, Option.getD_some, Array.any_eq_true] at h3
  obtain ⟨q, hq, h5⟩ := h3
  rw [Bool.and_eq_true, beq_iff_eq] at h5
  exact ⟨_, Array.getElem_mem hq, h5.1, h5.2⟩

theorem ready_nonempty {m : Nat} {ops : Array Oper} (hB : tailB m ops = true) {listed : Array Bool} (hs : listed.size = ops.size) {k : Nat} (hk : k < ops.size) (hun : listed.getD k true = false) : Region.ready .any ops listed ≠ [] := by
  have key : ∀ k, k < ops.size → listed.getD k true = false → ∃ m, m ∈ Region.ready .any ops listed := by
    intro k
    induction k using Nat.strongRecOn with
    | _ k ih =>
      intro hk hun
      by_cases hr : k ∈ Region.ready .any ops listed
      · exact ⟨k, hr⟩
      · have ho : ops[k]? = some ops[k] := Array.getElem?_eq_getElem hk
        have h2 : ¬ ∀ e ∈ ops[k].after, Region.binds .any e = true → listed.getD e.on false = true := fun hall => hr (mem_ready.2 ⟨hun, _, ho, hall⟩)
        simp only [Classical.not_forall] at h2
        obtain ⟨e, he, hb, hne⟩ := h2
        have hlt := earlier hB ho e he hb
        exact ih e.on hlt (by omega) (by rw [getD_false_true (by omega)]; simpa using hne)
  obtain ⟨m, hm⟩ := key k hk hun
  intro h0
  rw [h0] at hm
  cases hm

/-- All before k are listed, none from k on. -/
def Upto (ops : Array Oper) (k : Nat) (listed : Array Bool) : Prop := listed.size = ops.size ∧ (∀ j, j < k → listed.getD j false = true) ∧ ∀ j, k ≤ j → j < ops.size → listed.getD j true = false
theorem Upto.next {ops : Array Oper} {k : Nat} {listed : Array Bool} (h : Upto ops k listed) (hk : k < ops.size) : Upto ops (k + 1) (listed.setIfInBounds k true) := by
  obtain ⟨hs, h1, h2⟩ := h
  refine ⟨by simpa using hs, fun j hj => ?_, fun j hj hjs => ?_⟩
  · by_cases e : k = j
    · subst e
      have : k < listed.size := by omega
      simp [this]
    · rw [getD_set_ne false e]
      exact h1 j (by omega)
  · rw [getD_set_ne true (by omega)]
    exact h2 j (by omega) hjs
theorem Upto.ready {m : Nat} {ops : Array Oper} (hB : tailB m ops = true) {k : Nat} {listed : Array Bool} (h : Upto ops k listed) (hmk : m < k) {i : Nat} (hi : i ∈ Region.ready .any ops listed) : i = k := by
  obtain ⟨hun, o, ho, hall⟩ := mem_ready.1 hi
  have his : i < ops.size := (Array.getElem?_eq_some_iff.1 ho).1
  have hsz := h.1
  have h1 : k ≤ i := by
    rcases Nat.lt_or_ge i k with h' | h'
    · have h2 := h.2.1 i h'
      rw [← getD_false_true (by omega)] at h2
      rw [h2] at hun
      cases hun
    · exact h'
  rcases Nat.lt_or_ge k i with h' | h'
  · obtain ⟨e, he, hb, hon⟩ := waits hB ho (by omega)
    have h2 := hall e he hb
    have h3 := h.2.2 e.on (by omega) (by omega)
    rw [getD_false_true (by omega), h2] at h3
    cases h3
  · omega
theorem Upto.isReady {m : Nat} {ops : Array Oper} (hB : tailB m ops = true) {k : Nat} {listed : Array Bool} (h : Upto ops k listed) (hk : k < ops.size) : k ∈ Region.ready .any ops listed :=
  mem_ready.2 ⟨h.2.2 k (Nat.le_refl _) hk, _, Array.getElem?_eq_getElem hk, fun e he hb => h.2.1 e.on (earlier hB (Array.getElem?_eq_getElem hk) e he hb)⟩

/-- What is asked behind all operations before number m. -/
def tailQ (P : Program) (ops : Array Oper) (l : List Oper) (Q : Exit → Act → World → Prop) : Exit → Act → World → Prop
  | .normal, a, w => wpList P ops Q l a w
  | e, a, w => Q e a w

theorem wp_tail {P : Program} {ops : Array Oper} {l : List Oper} {p : Oper} {Q : Exit → Act → World → Prop} {a : Act} {w : World} {K K' : Act → World → Prop} (hK : ∀ a w, K a w → K' a w) (h : p.wp P a w K (tailQ P ops l Q)) : p.wp P a w K' Q := by
  unfold Oper.wp at *
  generalize (execOp a.eval p).run P w = x at *
  unfold Oper.upon at *
  split at h
  · exact hK _ _ h
  · exact hK _ _ h
  · exact hK _ _ h
  · refine h.mono fun e w' h' => ?_
    cases e with
    | returned v => exact hK _ _ h'
    | panicked c => exact h'
    | outgrown => exact h'
  · exact h.mono fun v w' h' => hK _ _ h'
  · exact h
  · exact h.elim

section
variable {P : Program} {l : List Oper} {m : Nat} {Q : Exit → Act → World → Prop}

theorem ready_idle (listed : Array Bool) : Region.ready .any (idleTail m l).toArray listed = Region.ready .any l.toArray listed := by
  unfold Region.ready
  have e : (idleTail m l).toArray.size = l.toArray.size := by simp [idleTail_len]
  rw [e]
  refine List.filter_congr fun i hi => ?_
  have : (((idleTail m l).toArray)[i]?).map (·.after) = (l.toArray[i]?).map (·.after) := by
    simp only [List.getElem?_toArray, idleTail_get]
    split
    · cases l[i]? <;> rfl
    · rfl
  congr 1
  cases h1 : (idleTail m l).toArray[i]? with
  | none =>
    rw [h1] at this
    cases h2 : l.toArray[i]? with
    | none => rfl
    | some x => rw [h2] at this; cases this
  | some y =>
    rw [h1] at this
    cases h2 : l.toArray[i]? with
    | none => rw [h2] at this; cases this
    | some x =>
      rw [h2] at this
      simp only [Option.map_some, Option.some.injEq] at this
      simp only [Option.map_some, Option.getD_some, this]

/-- The last operations, in the real region. -/
theorem run_tail (hB : tailB m l.toArray = true) : ∀ (d k n : Nat) (listed : Array Bool) (a : Act) (w : World), k + d = l.length → m < k → Upto l.toArray k listed → d ≤ n → wpList P l.toArray Q (l.drop k) a w → wpAny P .any l.toArray Q n listed a w := by
  intro d
  induction d with
  | zero =>
    intro k n listed a w hk hm hu hn h
    have hend : Region.ready .any l.toArray listed = [] := by
      rw [List.eq_nil_iff_forall_not_mem]
      intro i hi
      obtain rfl := hu.ready hB hm hi
      obtain ⟨-, o, ho, -⟩ := mem_ready.1 hi
      have := (Array.getElem?_eq_some_iff.1 ho).1
      simp at this
      omega
    have hq : Q .normal a w := by
      rw [List.drop_of_length_le (by omega)] at h
      exact h
    cases n with
    | zero => exact ⟨hend, hq⟩
    | succ n => exact ⟨fun _ => hq, fun i hi => by rw [hend] at hi; cases hi⟩
  | succ d ih =>
    intro k n listed a w hk hm hu hn h
    cases n with
    | zero => omega
    | succ n =>
      have hks : k < l.toArray.size := by simp; omega
      refine ⟨fun h0 => (by have h9 := hu.isReady hB hks; rw [h0] at h9; cases h9), fun i hi => ?_⟩
      obtain rfl := hu.ready hB hm hi
      rw [List.drop_eq_getElem_cons (by omega)] at h
      unfold wpOp
      rw [List.getElem?_toArray, List.getElem?_eq_getElem (by omega)]
      simp only
      unfold wpList at h
      have hrec : ∀ a' w', wpList P l.toArray Q (l.drop (i + 1)) a' w' → wpAny P .any l.toArray Q n (listed.setIfInBounds i true) a' w' := fun a' w' hh =>
        ih (i + 1) n _ a' w' (by omega) (by omega) (hu.next hks) (by omega) hh
      split at h
      · rename_i hw
        rw [if_pos hw]
        rcases h with h3 | h3
        · exact .inl (Oper.wp_mono hrec h3)
        · exact .inr h3
      · rename_i hw
        rw [if_neg hw]
        exact hrec _ _ h

theorem idle_asks {a : Act} {w : World} {o : Oper} : ¬ (idle o).asks P a w := by
  intro h5
  unfold Oper.asks at h5
  have h6 : (Sem.runT P (execOp a.eval (idle o)) w #[]).snd = #[] := rfl
  rw [h6] at h5
  exact absurd h5.1 (by simp)

/-- The idle operations do nothing. -/
theorem idle_tail {Q' : Exit → Act → World → Prop} (hB : tailB m l.toArray = true) (hng : ∀ (j : Nat) (o : Oper), l[j]? = some o → o.guard = none) : ∀ (d k n : Nat) (listed : Array Bool) (a : Act) (w : World), k + d = l.length → m < k → Upto l.toArray k listed → wpAny P .any (idleTail m l).toArray Q' n listed a w → d ≤ n ∧ Q' .normal a w := by
  intro d
  induction d with
  | zero =>
    intro k n listed a w hk hm hu h
    refine ⟨Nat.zero_le _, ?_⟩
    cases n with
    | zero => exact h.2
    | succ n =>
      refine h.1 ?_
      rw [ready_idle, List.eq_nil_iff_forall_not_mem]
      intro i hi
      obtain rfl := hu.ready hB hm hi
      obtain ⟨-, o, ho, -⟩ := mem_ready.1 hi
      have := (Array.getElem?_eq_some_iff.1 ho).1
      simp at this
      omega
  | succ d ih =>
    intro k n listed a w hk hm hu h
    have hks : k < l.toArray.size := by simp; omega
    have hr := hu.isReady hB hks
    cases n with
    | zero =>
      have h1 := h.1
      rw [ready_idle] at h1
      rw [h1] at hr
      cases hr
    | succ n =>
      have h2 := h.2 k (by rw [ready_idle]; exact hr)
      have hgo : wpAny P .any (idleTail m l).toArray Q' n (listed.setIfInBounds k true) a w := by
        have hl : l[k]? = some (l[k]'(by omega)) := List.getElem?_eq_getElem (by omega)
        generalize (l[k]'(by omega)) = o at hl
        have hidle : (idleTail m l).toArray[k]? = some (idle o) := by
          rw [List.getElem?_toArray, idleTail_get, if_pos (by omega), hl]
          rfl
        unfold wpOp at h2
        rw [hidle] at h2
        simp only at h2
        have hput : ∀ v, a.put (idle o).dst v = a := fun v => rfl
        split at h2
        · rcases h2 with h3 | ⟨h3, -⟩
          · have h4 : wpAny P .any (idleTail m l).toArray Q' n (listed.setIfInBounds k true) (a.put (idle o).dst (.bool true)) w := h3
            rw [hput] at h4
            exact h4
          · exact absurd h3 idle_asks
        · rw [hput] at h2
          exact h2
      obtain ⟨h3, h4⟩ := ih (k + 1) n _ a w (by omega) (by omega) (hu.next hks) hgo
      exact ⟨by omega, h4⟩

theorem wpAny_tail (hB : tailB m l.toArray = true) (hm : m < l.length) (hng : ∀ (j : Nat) (o : Oper), l[j]? = some o → o.guard = none) : ∀ (n : Nat) (listed : Array Bool) (a : Act) (w : World), Closed l.toArray listed → (∀ j, m ≤ j → j < l.length → listed.getD j true = false) →
    wpAny P .any (idleTail m l).toArray (tailQ P l.toArray (l.drop m) Q) n listed a w → wpAny P .any l.toArray Q n listed a w
  | 0, listed, a, w, hc, hun, h => by
    have h1 := h.1
    rw [ready_idle] at h1
    exact absurd h1 (ready_nonempty hB hc.1 (k := m) (by simpa using hm) (hun m (Nat.le_refl _) hm))
  | n + 1, listed, a, w, hc, hun, h => by
    refine ⟨fun h0 => absurd h0 (ready_nonempty hB hc.1 (k := m) (by simpa using hm) (hun m (Nat.le_refl _) hm)), fun i hi => ?_⟩
    have h2 := h.2 i (by rw [ready_idle]; exact hi)
    have hsz : listed.size = l.toArray.size := hc.1
    have hms : m < l.toArray.size := by simpa using hm
    rcases Nat.lt_trichotomy i m with him | rfl | him
    · have hgeti : (idleTail m l).toArray[i]? = l.toArray[i]? := by
        rw [List.getElem?_toArray, idleTail_get, if_neg (by omega), List.getElem?_toArray]
      have hrec : ∀ a' w', wpAny P .any (idleTail m l).toArray (tailQ P l.toArray (l.drop m) Q) n (listed.setIfInBounds i true) a' w' → wpAny P .any l.toArray Q n (listed.setIfInBounds i true) a' w' :=
        fun a' w' hh => wpAny_tail hB hm hng n _ a' w' (hc.set hi) (fun j h1 h2 => by rw [getD_set_ne true (by omega)]; exact hun j h1 h2) hh
      unfold wpOp at h2 ⊢
      rw [hgeti] at h2
      cases ho : l.toArray[i]? with
      | none =>
        rw [ho] at h2
        exact hrec _ _ h2
      | some p =>
        rw [ho] at h2
        simp only at h2 ⊢
        have hwt : ∀ y, Region.wanted p y = true := fun y => by
          have := hng i p (by simpa using ho)
          simp [Region.wanted, this]
        rw [if_pos (hwt _)] at h2 ⊢
        rcases h2 with h3 | ⟨h3, h4⟩
        · exact .inl (wp_tail hrec h3)
        · exact .inr ⟨h3, h4⟩
    · have hall := all_listed hB hms hc hi
      have hu : Upto l.toArray i listed := ⟨hsz, hall, fun j h1 h2 => hun j h1 (by simpa using h2)⟩
      have hl : l[i]? = some (l[i]'hm) := List.getElem?_eq_getElem hm
      have hidle : (idleTail i l).toArray[i]? = some (idle (l[i]'hm)) := by
        rw [List.getElem?_toArray, idleTail_get, if_pos (by omega), hl]
        rfl
      have hgo : wpAny P .any (idleTail i l).toArray (tailQ P l.toArray (l.drop i) Q) n (listed.setIfInBounds i true) a w := by
        unfold wpOp at h2
        rw [hidle] at h2
        simp only at h2
        have hput : ∀ v, a.put (idle (l[i]'hm)).dst v = a := fun v => rfl
        split at h2
        · rcases h2 with h3 | ⟨h3, -⟩
          · have h4 : wpAny P .any (idleTail i l).toArray (tailQ P l.toArray (l.drop i) Q) n (listed.setIfInBounds i true) (a.put (idle (l[i]'hm)).dst (.bool true)) w := h3
            rw [hput] at h4
            exact h4
          · exact absurd h3 idle_asks
        · rw [hput] at h2
          exact h2
      obtain ⟨hn, hq⟩ := idle_tail hB hng (l.length - (i + 1)) (i + 1) n _ a w (by omega) (by omega) (hu.next hms) hgo
      have hq' : wpList P l.toArray Q (l.drop i) a w := hq
      rw [List.drop_eq_getElem_cons hm] at hq'
      unfold wpOp
      rw [List.getElem?_toArray, hl]
      simp only
      unfold wpList at hq'
      have hrec : ∀ a' w', wpList P l.toArray Q (l.drop (i + 1)) a' w' → wpAny P .any l.toArray Q n (listed.setIfInBounds i true) a' w' := fun a' w' hh =>
        run_tail hB (l.length - (i + 1)) (i + 1) n _ a' w' (by omega) (by omega) (hu.next hms) hn hh
      split at hq'
      · rename_i hw
        rw [if_pos hw]
        rcases hq' with h3 | h3
        · exact .inl (Oper.wp_mono hrec h3)
        · exact .inr h3
      · rename_i hw
        rw [if_neg hw]
        exact hrec _ _ hq'
    · obtain ⟨-, o, ho, hall⟩ := mem_ready.1 hi
      have his : i < l.length := by
        have := (Array.getElem?_eq_some_iff.1 ho).1
        simpa using this
      obtain ⟨e, he, hb, hon⟩ := waits hB ho him
      have h3 := hall e he hb
      have h4 := hun e.on (by omega) (by omega)
      rw [getD_false_true (by have : l.toArray.size = l.length := by simp
                              omega), h3] at h4
      cases h4

theorem rep_false (n i : Nat) : (Array.replicate n false).getD i false = false := by
  unfold Array.getD
  split <;> simp
theorem rep_true {n i : Nat} (h : i < n) : (Array.replicate n false).getD i true = false := by
  unfold Array.getD
  rw [dif_pos (by simpa using h)]
  simp

def noGuards (l : List Oper) : Bool := l.all fun o => o.guard.isNone

/-- **A region whose last operations, from number m on, follow each other and wait for all others.** -/
theorem wp_region_tail (m : Nat) (C : World → Prop) (G : World → World → Prop) (R : Tmp → Option RelO) {id : Nat} {a : Act} {w : World} (hml : decide (m < l.length) = true) (hd : noGuards l = true)
    (hm : P.follows .mixedOrders = true) (hL : tailB m l.toArray = true) (hB : Region.lexB .any (idleTail m l).toArray = true) (hA : apartDst (idleTail m l) = true) (hR : Stable C G R) (hC : C w.drew)
    (h : walkR P (idleTail m l).toArray C G R (fun F a' => ∀ w', C w' → Knows R F a' w' → wpList P l.toArray Q (l.drop m) a' w') (idleTail m l) (fun _ => False) a) : (Code.region id l.toArray true).wp P Q a w := by
  simp only [Region.lexB, Bool.and_eq_true] at hB
  have hml' : m < l.length := by simpa using hml
  have hD := apartDst_spec hA
  have hk : ∀ w, Knows R (fun _ => False) a w := fun w => ⟨fun s hs => hs.elim, fun s t hs => hs.elim⟩
  refine wp_region_any hm ?_
  have hsz : l.toArray.size = (idleTail m l).toArray.size := by simp [idleTail_len]
  have hd' : ∀ (j : Nat) (o : Oper), l[j]? = some o → o.guard = none := fun j o ho => by
    have h1 := List.all_eq_true.1 hd o (by
      rw [List.mem_iff_getElem?]
      exact ⟨j, ho⟩)
    simpa using h1
  refine wpAny_tail hL hml' hd' _ _ _ _ ⟨by simp, fun i o' _ hi => by rw [rep_false] at hi; cases hi⟩ (fun j _ hj => rep_true (by simpa using hj)) ?_
  rw [hsz]
  refine wpAny_of_anyR hR (E := fun F a' => ∀ w', C w' → Knows R F a' w' → wpList P l.toArray Q (l.drop m) a' w') (fun F a w hC hK h => h w hC hK) hD _ _ (fun _ => False) a _ (fun _ _ _ _ _ _ h => h) hC (hk _) ?_
  have := walkR_any (md := .any) hR hD hB.1 (idleTail m l) 0 (Array.replicate (idleTail m l).toArray.size false) (fun _ => False) a (by simp) (by simpa using hB.2) (fun _ _ _ _ _ _ h => h) ⟨_, hC, hk _⟩ h
  simpa using this
end

section
variable {P : Program} {ops : Array Oper} {C : World → Prop} {G : World → World → Prop} {R : Tmp → Option RelO} {E : (Tmp → Prop) → Act → Prop} {o : Oper} {rest : List Oper} {F : Tmp → Prop} {a : Act}
theorem walkR_idle (hG : ∀ w, C w → G w w) (h : walkR P ops C G R E rest F a) : walkR P ops C G R E (idle o :: rest) F a := by
  show opAt P ops C G R (idle o) (walkR P ops C G R E rest) F a
  have hput : ∀ v, a.put (idle o).dst v = a := fun v => rfl
  refine ⟨fun _ => ?_, fun _ => by rw [hput]; exact h⟩
  unfold opDo
  have hd' : (idle o).dst = none := rfl
  rw [hd']
  exact ⟨fun w hC _ => ⟨hC, hG w hC, trivial, fun h => by cases h⟩, h⟩
theorem walkR_skip (hw : Region.wanted o (yielded ops a.tmps) = false) (h : walkR P ops C G R E rest F (a.put o.dst undef)) : walkR P ops C G R E (o :: rest) F a :=
  ⟨fun h1 => (by rw [hw] at h1; cases h1), fun _ => h⟩
theorem walkR_plain {t : Tmp} (hw : Region.wanted o (yielded ops a.tmps) = true) (hd : o.dst = some t) (hr : R t = none) {x : Value} (hx : ∀ w, C w → Leans ops R F o a w → plainUpon x w ((execOp a.eval o).run P w)) (h : walkR P ops C G R E rest F (a.put (some t) x)) : walkR P ops C G R E (o :: rest) F a := by
  refine ⟨fun _ => ?_, fun h1 => by rw [hw] at h1; cases h1⟩
  unfold opDo
  simp only [hd, hr]
  exact ⟨x, hx, h⟩
theorem walkR_rel {t : Tmp} {r : RelO} (hw : Region.wanted o (yielded ops a.tmps) = true) (hd : o.dst = some t) (hr : R t = some r) (ht : t < a.tmps.size) (hx : ∀ w, C w → Leans ops R F o a w → relUpon P C G r w ((execOp a.eval o).run P w))
    (h : ∀ v, (∃ w, C w ∧ r.rel v w) → walkR P ops C G R E rest (more F t) (a.put (some t) v)) : walkR P ops C G R E (o :: rest) F a := by
  refine ⟨fun _ => ?_, fun h1 => by rw [hw] at h1; cases h1⟩
  unfold opDo
  simp only [hd, hr]
  refine ⟨ht, hx, fun v ⟨w, hC, hK⟩ => h v ⟨w, hC, ?_⟩⟩
  have := (hK.1 t (.inl rfl) r hr).1
  rwa [eval_put_self a t v ht] at this
theorem Leans.get {w : World} (h : Leans ops R F o a w) (t : Tmp) (hF : F t) (hc : (o.looksAt ops).contains t = true) {r : RelO} (hr : R t = some r) {v : Value} (hv : a.eval (.tmp t) = v) : r.rel v w := by
  subst hv
  exact h t hF (by simpa using hc) r hr
theorem Knows.get {w : World} (h : Knows R F a w) (t : Tmp) (hF : F t) {r : RelO} (hr : R t = some r) {v : Value} (hv : a.eval (.tmp t) = v) : r.rel v w := by
  subst hv
  exact (h.1 t hF r hr).1
theorem Knows.ne {w : World} (h : Knows R F a w) (s t : Tmp) (hs : F s) (ht : F t) (hne : s ≠ t) {r q : RelO} (hr : R s = some r) (hq : R t = some q) (ho : r.own = true) (hp : q.own = true) {u v : Value} (hu : a.eval (.tmp s) = u) (hv : a.eval (.tmp t) = v) : apartV u v := by
  subst hu hv
  exact h.2 s t hs ht hne r q hr hq ho hp
end

/-- The table of relations. -/
def relTab : List (Nat × RelO) → Tmp → Option RelO
  | [], _ => none
  | (t, r) :: l, s => match Nat.beq s t with
    | true => some r
    | false => relTab l s
end Go.Proofs.YtfiaoibfejginaaDoor.Own
