/- Tarjan's search as a function, as the program carries it out; what it keeps. -/
import Derived.Test.YtcelijjohcfhkaaDoorG0L
namespace Go.Proofs.YtcelijjohcfhkaaDoor
set_option linter.unusedVariables false
set_option linter.unusedSimpArgs false
open Go Go.RowKit Go.Sort

/-- The search's state. -/
structure St where
  stack : List Nat
  places : Nat → Int
  comps : List (BitVec 64)
def updI (f : Nat → Int) (i : Nat) (v : Int) : Nat → Int := fun j => if j = i then v else f j
/-- The set of some nodes. -/
def setOf (l : List Nat) : BitVec 64 := l.foldl (fun c i => c ||| oneB i) 0#64
def doneAt (f : Nat → Int) (l : List Nat) : Nat → Int := fun k => if k ∈ l then 41 else f k
def completeF (own : Nat) (s : St) : St := ⟨s.stack.take (own - 1), doneAt s.places (s.stack.drop (own - 1)), s.comps ++ [setOf (s.stack.drop (own - 1))]⟩
def stepF (V : Nat → St → Int × St) (p : Int × St) (k : Nat) : Int × St := if p.2.places k = 0 then (min p.1 (V k p.2).1, (V k p.2).2) else (min p.1 (p.2.places k), p.2)
def enterF (i : Nat) (s : St) : St := ⟨s.stack ++ [i], updI s.places i ((s.stack.length + 1 : Nat) : Int), s.comps⟩
def leaveF (own : Nat) (r : Int × St) : Int × St := if r.1 = (own : Int) then (r.1, completeF own r.2) else r
def visitF (att : Nat → BitVec 64) : Nat → Nat → St → Int × St
  | 0, _, s => (0, s)
  | f + 1, i, s => leaveF (s.stack.length + 1) ((members (att i)).foldl (stepF (visitF att f)) (((s.stack.length + 1 : Nat) : Int), enterF i s))

def zeros (N : Nat) (pl : Nat → Int) : Nat := (List.range N).countP fun k => pl k == 0
theorem zeros_le (N : Nat) (f g : Nat → Int) (h : ∀ k, g k = 0 → f k = 0) : zeros N g ≤ zeros N f := by
  unfold zeros
  exact List.countP_mono_left (fun x _ hx => by simp at hx ⊢; exact h x hx)
theorem zeros_upd {f : Nat → Int} {i : Nat} {v : Int} (hf : f i = 0) (hv : v ≠ 0) : ∀ N, i < N → zeros N (updI f i v) + 1 = zeros N f
  | 0, h => by omega
  | N + 1, h => by
    unfold zeros at *
    rw [List.range_succ, List.countP_append, List.countP_append]
    by_cases e : i = N
    · subst e
      have e1 : (List.range i).countP (fun k => updI f i v k == 0) = (List.range i).countP fun k => f k == 0 := by
        apply List.countP_congr
        intro x hx
        have := List.mem_range.1 hx
        have hne : ¬ x = i := by omega
        simp [updI, hne]
      rw [e1]
      simp [updI, hf, hv]
    · have ih := zeros_upd hf hv N (by omega)
      unfold zeros at ih
      have e2 : (updI f i v N == 0) = (f N == 0) := by
        have hne : ¬ N = i := fun h => e h.symm
        simp [updI, hne]
      simp only [List.countP_cons, List.countP_nil, e2]
      omega
theorem zeros_pos {f : Nat → Int} {i N : Nat} (hi : i < N) (hf : f i = 0) : 0 < zeros N f := by
  unfold zeros
  rw [List.countP_pos_iff]
  exact ⟨i, List.mem_range.2 hi, by simp [hf]⟩

/-- What every state keeps. -/
structure WF (N : Nat) (s : St) : Prop where
  nodes : ∀ x ∈ s.stack, x < N
  range : ∀ k, 0 ≤ s.places k ∧ s.places k ≤ 41
  sum : s.comps.length + s.stack.length + zeros N s.places ≤ N
  sets : ∀ c ∈ s.comps, ∀ j, c.getLsbD j = true → j < N
/-- What a visit leaves. -/
structure After (N : Nat) (s : St) (r : Int × St) : Prop where
  wf : WF N r.2
  pre : s.stack <+: r.2.stack
  zs : ∀ k, r.2.places k = 0 → s.places k = 0
  val : 0 ≤ r.1 ∧ r.1 ≤ 41
theorem After.zle {N : Nat} {s : St} {r : Int × St} (h : After N s r) : zeros N r.2.places ≤ zeros N s.places := zeros_le N _ _ h.zs
theorem After.step {N : Nat} {s : St} {p : Int × St} {V : Nat → St → Int × St} (h : After N s p) {k : Nat} (hV : ∀ s', WF N s' → s'.places k = 0 → After N s' (V k s')) : After N s (stepF V p k) := by
  unfold stepF
  by_cases hk : p.2.places k = 0
  · rw [if_pos hk]
    have h2 := hV p.2 h.wf hk
    have h3 := h.val
    have h4 := h2.val
    exact ⟨h2.wf, h.pre.trans h2.pre, fun j hj => h.zs j (h2.zs j hj), by constructor <;> (simp only; omega)⟩
  · rw [if_neg hk]
    have h3 := h.val
    have h4 := h.wf.range k
    exact ⟨h.wf, h.pre, h.zs, by constructor <;> (simp only; omega)⟩
theorem After.fold {N : Nat} {s : St} {V : Nat → St → Int × St} : ∀ (l : List Nat) (p : Int × St), After N s p → (∀ k ∈ l, ∀ s', WF N s' → s'.places k = 0 → After N s' (V k s')) → After N s (l.foldl (stepF V) p)
  | [], p, h, _ => h
  | x :: l, p, h, hV => After.fold l _ (h.step (hV x (List.mem_cons_self ..))) (fun k hk => hV k (List.mem_cons_of_mem _ hk))
theorem setOf_bit : ∀ (l : List Nat) (j : Nat), (∀ x ∈ l, x < 64) → (setOf l).getLsbD j = decide (j ∈ l) := by
  intro l j hl
  have gen : ∀ (l : List Nat) (c : BitVec 64), (∀ x ∈ l, x < 64) → (l.foldl (fun c i => c ||| oneB i) c).getLsbD j = (c.getLsbD j || decide (j ∈ l)) := by
    intro l
    induction l with
    | nil => intro c _; simp
    | cons x r ih =>
      intro c h
      rw [List.foldl_cons, ih _ (fun y hy => h y (List.mem_cons_of_mem _ hy)), BitVec.getLsbD_or, one_bit (h x (List.mem_cons_self ..))]
      by_cases e : x = j
      · subst e; simp
      · have e' : ¬ j = x := fun h => e h.symm
        simp [e, e']
  rw [setOf, gen l 0#64 hl]
  simp
theorem enter_wf {N : Nat} {s : St} {i : Nat} (h : WF N s) (hN : N ≤ 40) (hi : i < N) (hz : s.places i = 0) : WF N (enterF i s) ∧ zeros N (enterF i s).places + 1 = zeros N s.places ∧ s.stack.length + 1 ≤ N := by
  have hp := zeros_pos hi hz
  have hs := h.sum
  have hu := zeros_upd (v := ((s.stack.length + 1 : Nat) : Int)) hz (by omega) N hi
  refine ⟨⟨fun x hx => ?_, fun k => ?_, ?_, h.sets⟩, hu, by omega⟩
  · unfold enterF at hx
    rcases List.mem_append.1 hx with h1 | h1
    · exact h.nodes x h1
    · rw [List.mem_singleton] at h1
      omega
  · show 0 ≤ updI s.places i _ k ∧ updI s.places i _ k ≤ 41
    unfold updI
    split
    · omega
    · exact h.range k
  · show s.comps.length + (s.stack ++ [i]).length + zeros N (updI s.places i _) ≤ N
    rw [List.length_append]
    simp only [List.length_cons, List.length_nil]
    omega
theorem complete_wf {N : Nat} {s : St} {own : Nat} (hN : N ≤ 40) (h : WF N s) (h1 : 1 ≤ own) (h2 : own ≤ s.stack.length) : WF N (completeF own s) := by
  have hz : zeros N (doneAt s.places (s.stack.drop (own - 1))) ≤ zeros N s.places := zeros_le N _ _ (fun k hk => by
    unfold doneAt at hk
    split at hk
    · cases hk
    · exact hk)
  have hs := h.sum
  refine ⟨fun x hx => h.nodes x (List.mem_of_mem_take hx), fun k => ?_, ?_, fun c hc j hj => ?_⟩
  · show 0 ≤ doneAt _ _ k ∧ doneAt _ _ k ≤ 41
    unfold doneAt
    split
    · omega
    · exact h.range k
  · show (s.comps ++ [setOf (s.stack.drop (own - 1))]).length + (s.stack.take (own - 1)).length + zeros N (doneAt s.places (s.stack.drop (own - 1))) ≤ N
    rw [List.length_append, List.length_take]
    simp only [List.length_cons, List.length_nil]
    omega
  · rcases List.mem_append.1 hc with hc | hc
    · exact h.sets c hc j hj
    · rw [List.mem_singleton] at hc
      subst hc
      have hd : ∀ x ∈ s.stack.drop (own - 1), x < N := fun x hx => h.nodes x (List.mem_of_mem_drop hx)
      rw [setOf_bit _ _ (fun x hx => by have := hd x hx; omega)] at hj
      exact hd j (of_decide_eq_true hj)
theorem visit_after (att : Nat → BitVec 64) (N : Nat) (hN : N ≤ 40) (ha : ∀ i j, (att i).getLsbD j = true → j < N) : ∀ (f i : Nat) (s : St), WF N s → i < N → s.places i = 0 → After N s (visitF att f i s)
  | 0, i, s, h, _, _ => ⟨h, List.prefix_refl _, fun _ hk => hk, ⟨Int.le_refl 0, (by decide : (0 : Int) ≤ 41)⟩⟩
  | f + 1, i, s, h, hi, hz => by
    obtain ⟨h1, h2, h3⟩ := enter_wf h hN hi hz
    have hA : After N (enterF i s) (((s.stack.length + 1 : Nat) : Int), enterF i s) := ⟨h1, List.prefix_refl _, fun _ hk => hk, by constructor <;> (simp only; omega)⟩
    have hF := After.fold (V := visitF att f) (members (att i)) _ hA (fun k hk s' hs' hz' => visit_after att N hN ha f k s' hs' (ha i k (mem_members.1 hk).2) hz')
    have hpre : s.stack <+: (enterF i s).stack := List.prefix_append _ _
    have hzs : ∀ k, (enterF i s).places k = 0 → s.places k = 0 := fun k hk => by
      have hk' : updI s.places i ((s.stack.length + 1 : Nat) : Int) k = 0 := hk
      unfold updI at hk'
      split at hk'
      · omega
      · exact hk'
    have hlen : s.stack.length + 1 ≤ ((members (att i)).foldl (stepF (visitF att f)) (((s.stack.length + 1 : Nat) : Int), enterF i s)).2.stack.length := by
      have := hF.pre.length_le
      unfold enterF at this
      rw [List.length_append] at this
      exact this
    rw [visitF]
    generalize (members (att i)).foldl (stepF (visitF att f)) (((s.stack.length + 1 : Nat) : Int), enterF i s) = r at *
    unfold leaveF
    split
    · refine ⟨complete_wf hN hF.wf (by omega) hlen, ?_, fun k hk => ?_, hF.val⟩
      · have h5 := hpre.trans hF.pre
        show s.stack <+: r.2.stack.take (s.stack.length + 1 - 1)
        rw [Nat.add_sub_cancel]
        have := List.prefix_iff_eq_take.1 h5
        rw [← this]
        exact List.prefix_refl _
      · have hk' : doneAt r.2.places _ k = 0 := hk
        unfold doneAt at hk'
        split at hk'
        · cases hk'
        · exact hzs k (hF.zs k hk')
    · exact ⟨hF.wf, hpre.trans hF.pre, fun k hk => hzs k (hF.zs k hk), hF.val⟩
/-- What holds in the middle of a visit. -/
theorem mid_after (att : Nat → BitVec 64) (N : Nat) (hN : N ≤ 40) (ha : ∀ i j, (att i).getLsbD j = true → j < N) (f i : Nat) (s : St) (h : WF N s) (hi : i < N) (hz : s.places i = 0) (l : List Nat) (hl : ∀ k ∈ l, k < N) :
    After N (enterF i s) (l.foldl (stepF (visitF att f)) (((s.stack.length + 1 : Nat) : Int), enterF i s)) := by
  obtain ⟨h1, h2, h3⟩ := enter_wf h hN hi hz
  have hA : After N (enterF i s) (((s.stack.length + 1 : Nat) : Int), enterF i s) := ⟨h1, List.prefix_refl _, fun _ hk => hk, by constructor <;> (simp only; omega)⟩
  exact After.fold (V := visitF att f) l _ hA (fun k hk s' hs' hz' => visit_after att N hN ha f k s' hs' (hl k hk) hz')

/-- All visits. -/
def runF (att : Nat → BitVec 64) (N : Nat) (k : Nat) : St := (List.range k).foldl (fun s i => if s.places i = 0 then (visitF att N i s).2 else s) ⟨[], fun _ => 0, []⟩
theorem runF_succ (att : Nat → BitVec 64) (N k : Nat) : runF att N (k + 1) = if (runF att N k).places k = 0 then (visitF att N k (runF att N k)).2 else runF att N k := by
  unfold runF
  rw [List.range_succ, List.foldl_append]
  rfl
theorem runF_wf (att : Nat → BitVec 64) (N : Nat) (hN : N ≤ 40) (ha : ∀ i j, (att i).getLsbD j = true → j < N) : ∀ k, k ≤ N → WF N (runF att N k)
  | 0, _ => ⟨fun x hx => (by cases hx), fun k => ⟨Int.le_refl 0, (by decide : (0 : Int) ≤ 41)⟩, (by
      show 0 + 0 + zeros N (fun _ => 0) ≤ N
      have := List.countP_le_length (p := fun k => ((fun _ => 0 : Nat → Int) k == 0)) (l := List.range N)
      rw [List.length_range] at this
      unfold zeros
      omega), fun c hc => (by cases hc)⟩
  | k + 1, hk => by
    have ih := runF_wf att N hN ha k (by omega)
    rw [runF_succ]
    split
    · rename_i h
      exact (visit_after att N hN ha N k _ ih (by omega) h).wf
    · exact ih
theorem zeros_N (N : Nat) (pl : Nat → Int) : zeros N pl ≤ N := by
  have := List.countP_le_length (p := fun k => (pl k == 0)) (l := List.range N)
  rw [List.length_range] at this
  exact this
end Go.Proofs.YtcelijjohcfhkaaDoor
