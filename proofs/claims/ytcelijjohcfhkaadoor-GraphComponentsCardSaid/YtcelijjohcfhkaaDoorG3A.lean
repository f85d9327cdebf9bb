/- Tarjan's search finds the classes of nodes that reach each other. -/
import Derived.Test.YtcelijjohcfhkaaDoorG0X
namespace Go.Proofs.YtcelijjohcfhkaaDoor
set_option linter.unusedVariables false
set_option linter.unusedSimpArgs false
open Go Go.RowKit Go.Sort

/-- A way along the attacks. -/
inductive Wy (att : Nat → BitVec 64) (i : Nat) : Nat → Prop
  | here : Wy att i i
  | step {k j : Nat} : Wy att i k → (att k).getLsbD j = true → Wy att i j
theorem Wy.trans {att : Nat → BitVec 64} {i k j : Nat} (h : Wy att i k) (h2 : Wy att k j) : Wy att i j := by
  induction h2 with
  | here => exact h
  | step _ e ih => exact ih.step e
theorem Wy.one {att : Nat → BitVec 64} {i j : Nat} (h : (att i).getLsbD j = true) : Wy att i j := Wy.here.step h

theorem pre_get {l m : List Nat} (h : l <+: m) {p x : Nat} (hp : l[p]? = some x) : m[p]? = some x := by
  obtain ⟨r, rfl⟩ := h
  obtain ⟨hl, -⟩ := List.getElem?_eq_some_iff.1 hp
  rw [List.getElem?_append_left hl]
  exact hp
theorem pre_back {l m : List Nat} (h : l <+: m) {p x : Nat} (hp : m[p]? = some x) (hl : p < l.length) : l[p]? = some x := by
  obtain ⟨r, rfl⟩ := h
  rwa [List.getElem?_append_left hl] at hp
theorem get_lt {l : List Nat} {p x : Nat} (h : l[p]? = some x) : p < l.length := (List.getElem?_eq_some_iff.1 h).1
theorem mem_drop_iff {l : List Nat} {n x : Nat} : x ∈ l.drop n ↔ ∃ p, n ≤ p ∧ l[p]? = some x := by
  rw [List.mem_iff_getElem?]
  constructor
  · rintro ⟨q, hq⟩
    rw [List.getElem?_drop] at hq
    exact ⟨n + q, by omega, hq⟩
  · rintro ⟨p, hp, hx⟩
    exact ⟨p - n, by rw [List.getElem?_drop, Nat.add_sub_cancel' hp]; exact hx⟩
theorem take_get {l : List Nat} {n p x : Nat} : (l.take n)[p]? = some x ↔ p < n ∧ l[p]? = some x := by
  rw [List.getElem?_take]
  by_cases h : p < n
  · rw [if_pos h]; exact ⟨fun e => ⟨h, e⟩, fun e => e.2⟩
  · rw [if_neg h]; exact ⟨fun e => (by cases e), fun e => absurd e.1 h⟩

/-- What the search keeps, while the calls of the nodes in G run. -/
structure TI (att : Nat → BitVec 64) (G : List Nat) (s : St) : Prop where
  on : ∀ k, s.places k = 0 ∨ (∃ p : Nat, s.stack[p]? = some k) ∨ s.places k = 41
  at_ : ∀ p k : Nat, s.stack[p]? = some k → s.places k = (p : Int) + 1
  short : s.stack.length ≤ 40
  dn : ∀ k, s.places k = 41 ↔ ∃ c ∈ s.comps, c.getLsbD k = true
  gst : ∀ g ∈ G, ∃ p : Nat, s.stack[p]? = some g
  bl : ∀ k, s.places k ≠ 0 → k ∉ G → ∀ j, (att k).getLsbD j = true → s.places j ≠ 0
  cl : ∀ k, s.places k = 41 → ∀ j, (att k).getLsbD j = true → s.places j = 41
  scc : ∀ c ∈ s.comps, ∀ x, c.getLsbD x = true → ∀ y, c.getLsbD y = true ↔ Wy att x y ∧ Wy att y x
  dis : s.comps.Pairwise fun a b => ∀ j, a.getLsbD j = true → b.getLsbD j = false
  ne : ∀ c ∈ s.comps, ∃ j, c.getLsbD j = true
  fw : ∀ p q x y : Nat, p ≤ q → s.stack[p]? = some x → s.stack[q]? = some y → Wy att x y
  bk : ∀ p x : Nat, s.stack[p]? = some x → ∃ q g : Nat, q ≤ p ∧ s.stack[q]? = some g ∧ g ∈ G ∧ Wy att x g
theorem TI.uniq {att : Nat → BitVec 64} {G : List Nat} {s : St} (h : TI att G s) {p q k : Nat} (h1 : s.stack[p]? = some k) (h2 : s.stack[q]? = some k) : p = q := by
  have := h.at_ p k h1
  have := h.at_ q k h2
  omega
theorem TI.vis {att : Nat → BitVec 64} {G : List Nat} {s : St} (h : TI att G s) {p k : Nat} (h1 : s.stack[p]? = some k) : s.places k ≠ 0 ∧ s.places k ≠ 41 := by
  have h2 := h.at_ p k h1
  have h3 := get_lt h1
  have h4 := h.short
  omega

/-- What a visit of i leaves. -/
structure TV (att : Nat → BitVec 64) (G : List Nat) (s : St) (i : Nat) (r : Int × St) : Prop where
  inv : TI att G r.2
  vis : r.2.places i ≠ 0
  low : (r.1 = (s.stack.length : Int) + 1 ∧ r.2.stack = s.stack) ∨ ∃ q z : Nat, q < s.stack.length ∧ r.1 = (q : Int) + 1 ∧ r.2.stack[q]? = some z ∧ Wy att i z
  edge : ∀ p x : Nat, s.stack.length ≤ p → r.2.stack[p]? = some x → ∀ j : Nat, (att x).getLsbD j = true → ∀ q : Nat, s.stack[q]? = some j → r.1 ≤ (q : Int) + 1
/-- What holds in the middle of a visit of i, when the successors in D have been looked at. -/
structure TL (att : Nat → BitVec 64) (G : List Nat) (s : St) (i : Nat) (D : List Nat) (r : Int × St) : Prop where
  inv : TI att (i :: G) r.2
  pre : s.stack ++ [i] <+: r.2.stack
  seen : ∀ k ∈ D, r.2.places k ≠ 0
  low : r.1 = (s.stack.length : Int) + 1 ∨ ∃ q z : Nat, q < s.stack.length ∧ r.1 = (q : Int) + 1 ∧ r.2.stack[q]? = some z ∧ Wy att i z
  edge : ∀ p x : Nat, s.stack.length ≤ p → r.2.stack[p]? = some x → ∀ j : Nat, (att x).getLsbD j = true → (x = i → j ∈ D) → ∀ q : Nat, s.stack[q]? = some j → r.1 ≤ (q : Int) + 1

theorem enter_tl {att : Nat → BitVec 64} {G : List Nat} {s : St} {i : Nat} (h : TI att G s) (hi : s.places i = 0) (hG : ∀ g ∈ G, Wy att g i) (hl : s.stack.length + 1 ≤ 40) :
    TL att G s i [] (((s.stack.length + 1 : Nat) : Int), enterF i s) := by
  have gi : (s.stack ++ [i])[s.stack.length]? = some i := by simp
  have split : ∀ {p k : Nat}, (s.stack ++ [i])[p]? = some k → (p < s.stack.length ∧ s.stack[p]? = some k ∧ k ≠ i) ∨ p = s.stack.length ∧ k = i := by
    intro p k hp
    have hlt := get_lt hp
    rw [List.length_append] at hlt
    simp only [List.length_cons, List.length_nil] at hlt
    rcases Nat.lt_or_ge p s.stack.length with h1 | h1
    · rw [List.getElem?_append_left h1] at hp
      refine .inl ⟨h1, hp, fun e => ?_⟩
      subst e
      exact (h.vis hp).1 hi
    · obtain rfl : p = s.stack.length := by omega
      rw [gi] at hp
      exact .inr ⟨rfl, (Option.some.inj hp).symm⟩
  have old : ∀ {p k : Nat}, s.stack[p]? = some k → (s.stack ++ [i])[p]? = some k := fun hp => pre_get (List.prefix_append _ _) hp
  have pl : ∀ k, k ≠ i → (enterF i s).places k = s.places k := fun k hk => by
    show updI s.places i _ k = _
    unfold updI
    rw [if_neg hk]
  have pi : (enterF i s).places i = (s.stack.length : Int) + 1 := by
    show updI s.places i _ i = _
    unfold updI
    rw [if_pos rfl]
    omega
  have hdi : ¬ ∃ c ∈ s.comps, c.getLsbD i = true := fun hc => by have := (h.dn i).2 hc; omega
  refine ⟨⟨fun k => ?_, fun p k hp => ?_, ?_, fun k => ?_, fun g hg => ?_, fun k hk hkG j hj => ?_, fun k hk j hj => ?_, h.scc, h.dis, h.ne, fun p q x y hpq hx hy => ?_, fun p x hx => ?_⟩, List.prefix_refl _, fun k hk => (by cases hk), .inl (by show ((s.stack.length + 1 : Nat) : Int) = _; omega), fun p x hp hx j hj hD => ?_⟩
  · by_cases e : k = i
    · subst e
      exact .inr (.inl ⟨_, gi⟩)
    · rw [pl k e]
      rcases h.on k with h1 | ⟨p, h1⟩ | h1
      · exact .inl h1
      · exact .inr (.inl ⟨p, old h1⟩)
      · exact .inr (.inr h1)
  · rcases split hp with ⟨-, h2, h3⟩ | ⟨rfl, rfl⟩
    · rw [pl k h3]
      exact h.at_ p k h2
    · exact pi
  · show (s.stack ++ [i]).length ≤ 40
    rw [List.length_append]
    exact hl
  · by_cases e : k = i
    · subst e
      rw [pi]
      exact ⟨fun h1 => by omega, fun h1 => absurd h1 hdi⟩
    · rw [pl k e]
      exact h.dn k
  · rcases List.mem_cons.1 hg with rfl | h1
    · exact ⟨_, gi⟩
    · obtain ⟨p, hp⟩ := h.gst g h1
      exact ⟨p, old hp⟩
  · have h1 : k ≠ i := fun e => hkG (by rw [e]; exact List.mem_cons_self ..)
    have h2 : k ∉ G := fun e => hkG (List.mem_cons_of_mem _ e)
    rw [pl k h1] at hk
    by_cases e : j = i
    · rw [e, pi]; omega
    · rw [pl j e]
      exact h.bl k hk h2 j hj
  · have h1 : k ≠ i := fun e => by rw [e, pi] at hk; omega
    rw [pl k h1] at hk
    have h2 := h.cl k hk j hj
    have h3 : j ≠ i := fun e => by rw [e, hi] at h2; cases h2
    rw [pl j h3]
    exact h2
  · have toI : ∀ {p x : Nat}, s.stack[p]? = some x → Wy att x i := fun hx => by
      obtain ⟨q, g, -, -, hg, hw⟩ := h.bk _ _ hx
      exact hw.trans (hG g hg)
    rcases split hx with ⟨h1, h2, -⟩ | ⟨h1, rfl⟩
    · rcases split hy with ⟨h3, h4, -⟩ | ⟨h3, rfl⟩
      · exact h.fw p q x y hpq h2 h4
      · exact toI h2
    · rcases split hy with ⟨h3, h4, -⟩ | ⟨h3, rfl⟩
      · omega
      · exact .here
  · rcases split hx with ⟨h1, h2, -⟩ | ⟨h1, rfl⟩
    · obtain ⟨q, g, h3, h4, h5, h6⟩ := h.bk p x h2
      exact ⟨q, g, h3, old h4, List.mem_cons_of_mem _ h5, h6⟩
    · exact ⟨p, x, Nat.le_refl _, hx, List.mem_cons_self .., .here⟩
  · rcases split hx with ⟨h1, -, -⟩ | ⟨h1, h2⟩
    · omega
    · have := hD h2
      cases this

theorem TL.next {att : Nat → BitVec 64} {G : List Nat} {s : St} {i : Nat} {D : List Nat} {r : Int × St} {V : Nat → St → Int × St} (h : TL att G s i D r) {k : Nat} (hk : (att i).getLsbD k = true)
    (hV : r.2.places k = 0 → TV att (i :: G) r.2 k (V k r.2) ∧ r.2.stack <+: (V k r.2).2.stack ∧ ∀ j, (V k r.2).2.places j = 0 → r.2.places j = 0) : TL att G s i (D ++ [k]) (stepF V r k) := by
  have hpre : s.stack <+: r.2.stack := (List.prefix_append _ _).trans h.pre
  have hlen : s.stack.length + 1 ≤ r.2.stack.length := by
    have := h.pre.length_le
    rw [List.length_append] at this
    exact this
  have hown : r.1 ≤ (s.stack.length : Int) + 1 := by
    rcases h.low with h1 | ⟨q, z, h1, h2, -⟩ <;> omega
  unfold stepF
  by_cases hz : r.2.places k = 0
  · rw [if_pos hz]
    obtain ⟨hv, hp, hzs⟩ := hV hz
    refine ⟨hv.inv, h.pre.trans hp, fun j hj => ?_, ?_, fun p x hp1 hx j hj hD q hq => ?_⟩
    · rcases List.mem_append.1 hj with h1 | h1
      · exact fun e => h.seen j h1 (hzs j e)
      · rw [List.mem_singleton] at h1
        subst h1
        exact hv.vis
    · show min r.1 (V k r.2).1 = _ ∨ ∃ q z : Nat, q < s.stack.length ∧ min r.1 (V k r.2).1 = _ ∧ _
      by_cases hm : r.1 ≤ (V k r.2).1
      · rw [Int.min_eq_left hm]
        rcases h.low with h1 | ⟨q, z, h1, h2, h3, h4⟩
        · exact .inl h1
        · exact .inr ⟨q, z, h1, h2, pre_get hp h3, h4⟩
      · rw [Int.min_eq_right (by omega)]
        rcases hv.low with ⟨h1, -⟩ | ⟨q, z, h1, h2, h3, h4⟩
        · omega
        · exact .inr ⟨q, z, by omega, h2, h3, (Wy.one hk).trans h4⟩
    · show min r.1 (V k r.2).1 ≤ _
      rcases Nat.lt_or_ge p r.2.stack.length with h1 | h1
      · have hx' := pre_back hp hx h1
        have := h.edge p x hp1 hx' j hj (fun e => by
          rcases List.mem_append.1 (hD e) with h2 | h2
          · exact h2
          · rw [List.mem_singleton] at h2
            subst h2
            exact absurd hz (h.inv.vis (pre_get hpre hq)).1) q hq
        omega
      · have := hv.edge p x h1 hx j hj q (pre_get hpre hq)
        omega
  · rw [if_neg hz]
    refine ⟨h.inv, h.pre, fun j hj => ?_, ?_, fun p x hp1 hx j hj hD q hq => ?_⟩
    · rcases List.mem_append.1 hj with h1 | h1
      · exact h.seen j h1
      · rw [List.mem_singleton] at h1
        subst h1
        exact hz
    · show min r.1 (r.2.places k) = _ ∨ ∃ q z : Nat, q < s.stack.length ∧ min r.1 (r.2.places k) = _ ∧ _
      by_cases hm : r.1 ≤ r.2.places k
      · rw [Int.min_eq_left hm]
        exact h.low
      · rw [Int.min_eq_right (by omega)]
        rcases h.inv.on k with h1 | ⟨p, h1⟩ | h1
        · exact absurd h1 hz
        · have h2 := h.inv.at_ p k h1
          exact .inr ⟨p, k, by omega, h2, h1, Wy.one hk⟩
        · have := h.inv.short
          omega
    · show min r.1 (r.2.places k) ≤ _
      by_cases e : x = i ∧ j = k
      · obtain ⟨-, rfl⟩ := e
        have := h.inv.at_ q j (pre_get hpre hq)
        omega
      · have := h.edge p x hp1 hx j hj (fun e2 => by
          rcases List.mem_append.1 (hD e2) with h2 | h2
          · exact h2
          · rw [List.mem_singleton] at h2
            exact absurd ⟨e2, h2⟩ e) q hq
        omega
end Go.Proofs.YtcelijjohcfhkaaDoor
