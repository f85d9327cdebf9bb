/- Tarjan's search finds the classes of nodes that reach each other. Tarjan's search: what a visit leaves, and what all visits find. The order of the classes: there is one, and attacks go only within classes and from earlier to later ones. Ways and Reach; the components of a graph turned round. A graph turned round twice; attackers and attacked nodes, ways, components of a graph turned round, as the law asks. -/
import Derived.Test.YtcelijjohcfhkaaDoorG0X
import Derived.Test.YtcelijjohcfhkaaDoorG1D
import Derived.Test.YtcelijjohcfhkaaDoorG1M
import Derived.Test.YtcelijjohcfhkaaDoorG1H

namespace Go.Proofs.YtcelijjohcfhkaaDoor
set_option linter.unusedVariables false
set_option linter.unusedSimpArgs false
open Go Go.RowKit Go.Sort

/-- A way along the attacks. -/
inductive Wy (att : Nat → BitVec 64) (i : Nat) : Nat → Prop
  | here : Wy att i i
  | step {k j : Nat} : Wy att i k → (att k).getLsbD j = true → Wy att i j
theorem Wy.trans {att : Nat → BitVec 64} {i k j : Nat} (h : Wy att i k) (h2 : Wy att k j) : Wy att i j := by
  induction h2 with
  | here => exact h
  | step _ e ih => exact ih.step e
theorem Wy.one {att : Nat → BitVec 64} {i j : Nat} (h : (att i).getLsbD j = true) : Wy att i j := Wy.here.step h

theorem pre_get {l m : List Nat} (h : l <+: m) {p x : Nat} (hp : l[p]? = some x) : m[p]? = some x := by
  obtain ⟨r, rfl⟩ := h
  obtain ⟨hl, -⟩ := List.getElem?_eq_some_iff.1 hp
  rw [List.getElem?_append_left hl]
  exact hp
theorem pre_back {l m : List Nat} (h : l <+: m) {p x : Nat} (hp : m[p]? = some x) (hl : p < l.length) : l[p]? = some x := by
  obtain ⟨r, rfl⟩ := h
  rwa [List.getElem?_append_left hl] at hp
theorem get_lt {l : List Nat} {p x : Nat} (h : l[p]? = some x) : p < l.length := (List.getElem?_eq_some_iff.1 h).1
theorem mem_drop_iff {l : List Nat} {n x : Nat} : x ∈ l.drop n ↔ ∃ p, n ≤ p ∧ l[p]? = some x := by
  rw [List.mem_iff_getElem?]
  constructor
  · rintro ⟨q, hq⟩
    rw [List.getElem?_drop] at hq
    exact ⟨n + q, by omega, hq⟩
  · rintro ⟨p, hp, hx⟩
    exact ⟨p - n, by rw [List.getElem?_drop, Nat.add_sub_cancel' hp]; exact hx⟩
theorem take_get {l : List Nat} {n p x : Nat} : (l.take n)[p]? = some x ↔ p < n ∧ l[p]? = some x := by
  rw [List.getElem?_take]
  by_cases h : p < n
  · rw [if_pos h]; exact ⟨fun e => ⟨h, e⟩, fun e => e.2⟩
  · rw [if_neg h]; exact ⟨fun e => (by cases e), fun e => absurd e.1 h⟩

/-- What the search keeps, while the calls of the nodes in G run. -/
structure TI (att : Nat → BitVec 64) (G : List Nat) (s : St) : Prop where
  on : ∀ k, s.places k = 0 ∨ (∃ p : Nat, s.stack[p]? = some k) ∨ s.places k = 41
  at_ : ∀ p k : Nat, s.stack[p]? = some k → s.places k = (p : Int) + 1
  short : s.stack.length ≤ 40
  dn : ∀ k, s.places k = 41 ↔ ∃ c ∈ s.comps, c.getLsbD k = true
  gst : ∀ g ∈ G, ∃ p : Nat, s.stack[p]? = some g
  bl : ∀ k, s.places k ≠ 0 → k ∉ G → ∀ j, (att k).getLsbD j = true → s.places j ≠ 0
  cl : ∀ k, s.places k = 41 → ∀ j, (att k).getLsbD j = true → s.places j = 41
  scc : ∀ c ∈ s.comps, ∀ x, c.getLsbD x = true → ∀ y, c.getLsbD y = true ↔ Wy att x y ∧ Wy att y x
  dis : s.comps.Pairwise fun a b => ∀ j, a.getLsbD j = true → b.getLsbD j = false
  ne : ∀ c ∈ s.comps, ∃ j, c.getLsbD j = true
  fw : ∀ p q x y : Nat, p ≤ q → s.stack[p]? = some x → s.stack[q]? = some y → Wy att x y
  bk : ∀ p x : Nat, s.stack[p]? = some x → ∃ q g : Nat, q ≤ p ∧ s.stack[q]? = some g ∧ g ∈ G ∧ Wy att x g
theorem TI.uniq {att : Nat → BitVec 64} {G : List Nat} {s : St} (h : TI att G s) {p q k : Nat} (h1 : s.stack[p]? = some k) (h2 : s.stack[q]? = some k) : p = q := by
  have := h.at_ p k h1
  have := h.at_ q k h2
  omega
theorem TI.vis {att : Nat → BitVec 64} {G : List Nat} {s : St} (h : TI att G s) {p k : Nat} (h1 : s.stack[p]? = some k) : s.places k ≠ 0 ∧ s.places k ≠ 41 := by
  have h2 := h.at_ p k h1
  have h3 := get_lt h1
  have h4 := h.short
  omega

/-- What a visit of i leaves. -/
structure TV (att : Nat → BitVec 64) (G : List Nat) (s : St) (i : Nat) (r : Int × St) : Prop where
  inv : TI att G r.2
  vis : r.2.places i ≠ 0
  low : (r.1 = (s.stack.length : Int) + 1 ∧ r.2.stack = s.stack) ∨ ∃ q z : Nat, q < s.stack.length ∧ r.1 = (q : Int) + 1 ∧ r.2.stack[q]? = some z ∧ Wy att i z
  edge : ∀ p x : Nat, s.stack.length ≤ p → r.2.stack[p]? = some x → ∀ j : Nat, (att x).getLsbD j = true → ∀ q : Nat, s.stack[q]? = some j → r.1 ≤ (q : Int) + 1
/-- What holds in the middle of a visit of i, when the successors in D have been looked at. -/
structure TL (att : Nat → BitVec 64) (G : List Nat) (s : St) (i : Nat) (D : List Nat) (r : Int × St) : Prop where
  inv : TI att (i :: G) r.2
  pre : s.stack ++ [i] <+: r.2.stack
  seen : ∀ k ∈ D, r.2.places k ≠ 0
  low : r.1 = (s.stack.length : Int) + 1 ∨ ∃ q z : Nat, q < s.stack.length ∧ r.1 = (q : Int) + 1 ∧ r.2.stack[q]? = some z ∧ Wy att i z
  edge : ∀ p x : Nat, s.stack.length ≤ p → r.2.stack[p]? = some x → ∀ j : Nat, (att x).getLsbD j = true → (x = i → j ∈ D) → ∀ q : Nat, s.stack[q]? = some j → r.1 ≤ (q : Int) + 1

theorem enter_tl {att : Nat → BitVec 64} {G : List Nat} {s : St} {i : Nat} (h : TI att G s) (hi : s.places i = 0) (hG : ∀ g ∈ G, Wy att g i) (hl : s.stack.length + 1 ≤ 40) :
    TL att G s i [] (((s.stack.length + 1 : Nat) : Int), enterF i s) := by
  have gi : (s.stack ++ [i])[s.stack.length]? = some i := by simp
  have split : ∀ {p k : Nat}, (s.stack ++ [i])[p]? = some k → (p < s.stack.length ∧ s.stack[p]? = some k ∧ k ≠ i) ∨ p = s.stack.length ∧ k = i := by
    intro p k hp
    have hlt := get_lt hp
    rw [List.length_append] at hlt
    simp only [List.length_cons, List.length_nil] at hlt
    rcases Nat.lt_or_ge p s.stack.length with h1 | h1
    · rw [List.getElem?_append_left h1] at hp
      refine .inl ⟨h1, hp, fun e => ?_⟩
      subst e
      exact (h.vis hp).1 hi
    · obtain rfl : p = s.stack.length := by omega
      rw [gi] at hp
      exact .inr ⟨rfl, (Option.some.inj hp).symm⟩
  have old : ∀ {p k : Nat}, s.stack[p]? = some k → (s.stack ++ [i])[p]? = some k := fun hp => pre_get (List.prefix_append _ _) hp
  have pl : ∀ k, k ≠ i → (enterF i s).places k = s.places k := fun k hk => by
    show updI s.places i _ k = _
    unfold updI
    rw [if_neg hk]
  have pi : (enterF i s).places i = (s.stack.length : Int) + 1 := by
    show updI s.places i _ i = _
    unfold updI
    rw [if_pos rfl]
    omega
  have hdi : ¬ ∃ c ∈ s.comps, c.getLsbD i = true := fun hc => by have := (h.dn i).2 hc; omega
  refine ⟨⟨fun k => ?_, fun p k hp => ?_, ?_, fun k => ?_, fun g hg => ?_, fun k hk hkG j hj => ?_, fun k hk j hj => ?_, h.scc, h.dis, h.ne, fun p q x y hpq hx hy => ?_, fun p x hx => ?_⟩, List.prefix_refl _, fun k hk => (by cases hk), .inl (by show ((s.stack.length + 1 : Nat) : Int) = _; omega), fun p x hp hx j hj hD => ?_⟩
  · by_cases e : k = i
    · subst e
      exact .inr (.inl ⟨_, gi⟩)
    · rw [pl k e]
      rcases h.on k with h1 | ⟨p, h1⟩ | h1
      · exact .inl h1
      · exact .inr (.inl ⟨p, old h1⟩)
      · exact .inr (.inr h1)
  · rcases split hp with ⟨-, h2, h3⟩ | ⟨rfl, rfl⟩
    · rw [pl k h3]
      exact h.at_ p k h2
    · exact pi
  · show (s.stack ++ [i]).length ≤ 40
    rw [List.length_append]
    exact hl
  · by_cases e : k = i
    · subst e
      rw [pi]
      exact ⟨fun h1 => by omega, fun h1 => absurd h1 hdi⟩
    · rw [pl k e]
      exact h.dn k
  · rcases List.mem_cons.1 hg with rfl | h1
    · exact ⟨_, gi⟩
    · obtain ⟨p, hp⟩ := h.gst g h1
      exact ⟨p, old hp⟩
  · have h1 : k ≠ i := fun e => hkG (by rw [e]; exact List.mem_cons_self ..)
    have h2 : k ∉ G := fun e => hkG (List.mem_cons_of_mem _ e)
    rw [pl k h1] at hk
    by_cases e : j = i
    · rw [e, pi]; omega
    · rw [pl j e]
      exact h.bl k hk h2 j hj
  · have h1 : k ≠ i := fun e => by rw [e, pi] at hk; omega
    rw [pl k h1] at hk
    have h2 := h.cl k hk j hj
    have h3 : j ≠ i := fun e => by rw [e, hi] at h2; cases h2
    rw [pl j h3]
    exact h2
  · have toI : ∀ {p x : Nat}, s.stack[p]? = some x → Wy att x i := fun hx => by
      obtain ⟨q, g, -, -, hg, hw⟩ := h.bk _ _ hx
      exact hw.trans (hG g hg)
    rcases split hx with ⟨h1, h2, -⟩ | ⟨h1, rfl⟩
    · rcases split hy with ⟨h3, h4, -⟩ | ⟨h3, rfl⟩
      · exact h.fw p q x y hpq h2 h4
      · exact toI h2
    · rcases split hy with ⟨h3, h4, -⟩ | ⟨h3, rfl⟩
      · omega
      · exact .here
  · rcases split hx with ⟨h1, h2, -⟩ | ⟨h1, rfl⟩
    · obtain ⟨q, g, h3, h4, h5, h6⟩ := h.bk p x h2
      exact ⟨q, g, h3, old h4, List.mem_cons_of_mem _ h5, h6⟩
    · exact ⟨p, x, Nat.le_refl _, hx, List.mem_cons_self .., .here⟩
  · rcases split hx with ⟨h1, -, -⟩ | ⟨h1, h2⟩
    · omega
    · have := hD h2
      cases this

theorem TL.next {att : Nat → BitVec 64} {G : List Nat} {s : St} {i : Nat} {D : List Nat} {r : Int × St} {V : Nat → St → Int × St} (h : TL att G s i D r) {k : Nat} (hk : (att i).getLsbD k = true)
    (hV : r.2.places k = 0 → TV att (i :: G) r.2 k (V k r.2) ∧ r.2.stack <+: (V k r.2).2.stack ∧ ∀ j, (V k r.2).2.places j = 0 → r.2.places j = 0) : TL att G s i (D ++ [k]) (stepF V r k) := by
  have hpre : s.stack <+: r.2.stack := (List.prefix_append _ _).trans h.pre
  have hlen : s.stack.length + 1 ≤ r.2.stack.length := by
    have := h.pre.length_le
    rw [List.length_append] at this
    exact this
  have hown : r.1 ≤ (s.stack.length : Int) + 1 := by
    rcases h.low with h1 | ⟨q, z, h1, h2, -⟩ <;> omega
  unfold stepF
  by_cases hz : r.2.places k = 0
  · rw [if_pos hz]
    obtain ⟨hv, hp, hzs⟩ := hV hz
    refine ⟨hv.inv, h.pre.trans hp, fun j hj => ?_, ?_, fun p x hp1 hx j hj hD q hq => ?_⟩
    · rcases List.mem_append.1 hj with h1 | h1
      · exact fun e => h.seen j h1 (hzs j e)
      · rw [List.mem_singleton] at h1
        subst h1
        exact hv.vis
    · show min r.1 (V k r.2).1 = _ ∨ ∃ q z : Nat, q < s.stack.length ∧ min r.1 (V k r.2).1 = _ ∧ _
      by_cases hm : r.1 ≤ (V k r.2).1
      · rw [Int.min_eq_left hm]
        rcases h.low with h1 | ⟨q, z, h1, h2, h3, h4⟩
        · exact .inl h1
        · exact .inr ⟨q, z, h1, h2, pre_get hp h3, h4⟩
      · rw [Int.min_eq_right (by omega)]
        rcases hv.low with ⟨h1, -⟩ | ⟨q, z, h1, h2, h3, h4⟩
        · omega
        · exact .inr ⟨q, z, by omega, h2, h3, (Wy.one hk).trans h4⟩
    · show min r.1 (V k r.2).1 ≤ _
      rcases Nat.lt_or_ge p r.2.stack.length with h1 | h1
      · have hx' := pre_back hp hx h1
        have := h.edge p x hp1 hx' j hj (fun e => by
          rcases List.mem_append.1 (hD e) with h2 | h2
          · exact h2
          · rw [List.mem_singleton] at h2
            subst h2
            exact absurd hz (h.inv.vis (pre_get hpre hq)).1) q hq
        omega
      · have := hv.edge p x h1 hx j hj q (pre_get hpre hq)
        omega
  · rw [if_neg hz]
    refine ⟨h.inv, h.pre, fun j hj => ?_, ?_, fun p x hp1 hx j hj hD q hq => ?_⟩
    · rcases List.mem_append.1 hj with h1 | h1
      · exact h.seen j h1
      · rw [List.mem_singleton] at h1
        subst h1
        exact hz
    · show min r.1 (r.2.places k) = _ ∨ ∃ q z : Nat, q < s.stack.length ∧ min r.1 (r.2.places k) = _ ∧ _
      by_cases hm : r.1 ≤ r.2.places k
      · rw [Int.min_eq_left hm]
        exact h.low
      · rw [Int.min_eq_right (by omega)]
        rcases h.inv.on k with h1 | ⟨p, h1⟩ | h1
        · exact absurd h1 hz
        · have h2 := h.inv.at_ p k h1
          exact .inr ⟨p, k, by omega, h2, h1, Wy.one hk⟩
        · have := h.inv.short
          omega
    · show min r.1 (r.2.places k) ≤ _
      by_cases e : x = i ∧ j = k
      · obtain ⟨-, rfl⟩ := e
        have := h.inv.at_ q j (pre_get hpre hq)
        omega
      · have := h.edge p x hp1 hx j hj (fun e2 => by
          rcases List.mem_append.1 (hD e2) with h2 | h2
          · exact h2
          · rw [List.mem_singleton] at h2
            exact absurd ⟨e2, h2⟩ e) q hq
        omega
end Go.Proofs.YtcelijjohcfhkaaDoor

namespace Go.Proofs.YtcelijjohcfhkaaDoor
set_option linter.unusedVariables false
set_option linter.unusedSimpArgs false
open Go Go.RowKit Go.Sort

theorem leave_low {att : Nat → BitVec 64} {G : List Nat} {s : St} {i : Nat} {D : List Nat} {r : Int × St} (hs : TI att G s) (h : TL att G s i D r) (hD : ∀ j, (att i).getLsbD j = true → j ∈ D) (hne : r.1 ≠ (s.stack.length : Int) + 1) : TV att G s i r := by
  have hpre : s.stack <+: r.2.stack := (List.prefix_append _ _).trans h.pre
  have gi : r.2.stack[s.stack.length]? = some i := pre_get h.pre (by simp)
  have hi := h.inv
  refine ⟨⟨hi.on, hi.at_, hi.short, hi.dn, fun g hg => ?_, fun k hk hkG j hj => ?_, hi.cl, hi.scc, hi.dis, hi.ne, hi.fw, fun p x hx => ?_⟩, (hi.vis gi).1, ?_, fun p x hp hx j hj q hq => h.edge p x hp hx j hj (fun e => by subst e; exact hD j hj) q hq⟩
  · obtain ⟨p, hp⟩ := hs.gst g hg
    exact ⟨p, pre_get hpre hp⟩
  · by_cases e : k = i
    · subst e
      exact h.seen j (hD j hj)
    · exact hi.bl k hk (fun e2 => by
        rcases List.mem_cons.1 e2 with e3 | e3
        · exact e e3
        · exact hkG e3) j hj
  · obtain ⟨q, g, h1, h2, h3, h4⟩ := hi.bk p x hx
    rcases List.mem_cons.1 h3 with rfl | h5
    · obtain rfl := hi.uniq h2 gi
      rcases h.low with h6 | ⟨q', z, h6, -, h7, h8⟩
      · exact absurd h6 hne
      · obtain ⟨q2, g2, k1, k2, k3, k4⟩ := hi.bk q' z h7
        rcases List.mem_cons.1 k3 with rfl | k5
        · have := hi.uniq k2 gi
          omega
        · exact ⟨q2, g2, by omega, k2, k5, (h4.trans h8).trans k4⟩
    · exact ⟨q, g, h1, h2, h5, h4⟩
  · rcases h.low with h6 | h6
    · exact absurd h6 hne
    · exact .inr h6

theorem leave_own {att : Nat → BitVec 64} {G : List Nat} {s : St} {i : Nat} {D : List Nat} {r : Int × St} (hs : TI att G s) (h : TL att G s i D r) (hD : ∀ j, (att i).getLsbD j = true → j ∈ D) (hown : r.1 = (s.stack.length : Int) + 1) (h64 : ∀ x ∈ r.2.stack, x < 64) : TV att G s i (r.1, completeF (s.stack.length + 1) r.2) := by
  have hpre : s.stack <+: r.2.stack := (List.prefix_append _ _).trans h.pre
  have gi : r.2.stack[s.stack.length]? = some i := pre_get h.pre (by simp)
  have hi := h.inv
  have htake : r.2.stack.take (s.stack.length + 1 - 1) = s.stack := by
    rw [Nat.add_sub_cancel]
    exact (List.prefix_iff_eq_take.1 hpre).symm
  have hstk : (completeF (s.stack.length + 1) r.2).stack = s.stack := htake
  have hnew : ∀ x, x ∈ r.2.stack.drop (s.stack.length + 1 - 1) ↔ ∃ p : Nat, s.stack.length ≤ p ∧ r.2.stack[p]? = some x := fun x => by
    rw [Nat.add_sub_cancel]
    exact mem_drop_iff
  have hpl : ∀ k, (completeF (s.stack.length + 1) r.2).places k = if k ∈ r.2.stack.drop (s.stack.length + 1 - 1) then 41 else r.2.places k := fun k => rfl
  have hcm : (completeF (s.stack.length + 1) r.2).comps = r.2.comps ++ [setOf (r.2.stack.drop (s.stack.length + 1 - 1))] := rfl
  have hbit : ∀ j, (setOf (r.2.stack.drop (s.stack.length + 1 - 1))).getLsbD j = true ↔ j ∈ r.2.stack.drop (s.stack.length + 1 - 1) := fun j => by
    rw [setOf_bit _ _ (fun x hx => h64 x (List.mem_of_mem_drop hx))]
    exact decide_eq_true_iff
  generalize completeF (s.stack.length + 1) r.2 = t at *
  generalize r.2.stack.drop (s.stack.length + 1 - 1) = W at *
  have hGW : ∀ x, x ∈ W → x ∉ G := fun x hx hg => by
    obtain ⟨p, h1, h2⟩ := (hnew x).1 hx
    obtain ⟨q, h3⟩ := hs.gst x hg
    have := hi.uniq h2 (pre_get hpre h3)
    have := get_lt h3
    omega
  have hvis : ∀ x, x ∈ W → ∀ j, (att x).getLsbD j = true → j ∈ W ∨ r.2.places j = 41 := fun x hx j hj => by
    obtain ⟨p, h1, h2⟩ := (hnew x).1 hx
    have hv : r.2.places j ≠ 0 := by
      by_cases e : x = i
      · subst e
        exact h.seen j (hD j hj)
      · exact hi.bl x (hi.vis h2).1 (fun e2 => by
          rcases List.mem_cons.1 e2 with e3 | e3
          · exact e e3
          · exact hGW x hx e3) j hj
    rcases hi.on j with h3 | ⟨q, h3⟩ | h3
    · exact absurd h3 hv
    · rcases Nat.lt_or_ge q s.stack.length with h4 | h4
      · have := h.edge p x h1 h2 j hj (fun e => by subst e; exact hD j hj) q (pre_back hpre h3 h4)
        omega
      · exact .inl ((hnew j).2 ⟨q, h4, h3⟩)
    · exact .inr h3
  have hcl : ∀ x y, (x ∈ W ∨ r.2.places x = 41) → Wy att x y → (y ∈ W ∨ r.2.places y = 41) := fun x y hx hw => by
    induction hw with
    | here => exact hx
    | step _ e ih =>
      rcases ih with h1 | h1
      · exact hvis _ h1 _ e
      · exact .inr (hi.cl _ h1 _ e)
  have hdw : ∀ x y, r.2.places x = 41 → Wy att x y → r.2.places y = 41 := fun x y hx hw => by
    induction hw with
    | here => exact hx
    | step _ e ih => exact hi.cl _ ih _ e
  have hWn : ∀ x, x ∈ W → r.2.places x ≠ 41 := fun x hx => by
    obtain ⟨p, -, h2⟩ := (hnew x).1 hx
    exact (hi.vis h2).2
  have hiW : i ∈ W := (hnew i).2 ⟨_, Nat.le_refl _, gi⟩
  have hto : ∀ x, x ∈ W → Wy att x i ∧ Wy att i x := fun x hx => by
    obtain ⟨p, h1, h2⟩ := (hnew x).1 hx
    refine ⟨?_, hi.fw _ p i x h1 gi h2⟩
    obtain ⟨q, g, k1, k2, k3, k4⟩ := hi.bk p x h2
    rcases hcl x g (.inl hx) k4 with k5 | k5
    · rcases List.mem_cons.1 k3 with rfl | k6
      · exact k4
      · exact absurd k6 (hGW g k5)
    · exact absurd k5 (hi.vis k2).2
  have hp41 : ∀ k, t.places k = 41 ↔ k ∈ W ∨ r.2.places k = 41 := fun k => by
    rw [hpl k]
    split
    · rename_i hk
      exact ⟨fun _ => .inl hk, fun _ => rfl⟩
    · rename_i hk
      exact ⟨fun e => .inr e, fun e => e.resolve_left hk⟩
  have hp0 : ∀ k, t.places k ≠ 0 ↔ r.2.places k ≠ 0 := fun k => by
    rw [hpl k]
    split
    · rename_i hk
      obtain ⟨p, -, h2⟩ := (hnew k).1 hk
      exact ⟨fun _ => (hi.vis h2).1, fun _ => (by decide)⟩
    · exact Iff.rfl
  have hold : ∀ {p k : Nat}, s.stack[p]? = some k → k ∉ W := fun {p k} hp hk => by
    obtain ⟨q, h1, h2⟩ := (hnew k).1 hk
    have := hi.uniq h2 (pre_get hpre hp)
    have := get_lt hp
    omega
  refine ⟨⟨fun k => ?_, fun p k hp => ?_, ?_, fun k => ?_, fun g hg => ?_, fun k hk hkG j hj => ?_, fun k hk j hj => ?_, fun c hc x hx y => ?_, ?_, fun c hc => ?_, fun p q x y hpq hx hy => ?_, fun p x hx => ?_⟩, ?_, .inl ⟨hown, hstk⟩, fun p x hp hx => ?_⟩
  · rw [hpl k]
    split
    · exact .inr (.inr rfl)
    · rename_i hk
      rcases hi.on k with h1 | ⟨p, h1⟩ | h1
      · exact .inl h1
      · rcases Nat.lt_or_ge p s.stack.length with h4 | h4
        · exact .inr (.inl ⟨p, by rw [hstk]; exact pre_back hpre h1 h4⟩)
        · exact absurd ((hnew k).2 ⟨p, h4, h1⟩) hk
      · exact .inr (.inr h1)
  · rw [hstk] at hp
    rw [hpl k, if_neg (hold hp)]
    exact hi.at_ p k (pre_get hpre hp)
  · rw [hstk]
    exact hs.short
  · rw [hp41 k, hcm]
    constructor
    · rintro (h1 | h1)
      · exact ⟨_, List.mem_append_right _ (List.mem_singleton.2 rfl), (hbit k).2 h1⟩
      · obtain ⟨c, h2, h3⟩ := (hi.dn k).1 h1
        exact ⟨c, List.mem_append_left _ h2, h3⟩
    · rintro ⟨c, h2, h3⟩
      rcases List.mem_append.1 h2 with h4 | h4
      · exact .inr ((hi.dn k).2 ⟨c, h4, h3⟩)
      · rw [List.mem_singleton] at h4
        subst h4
        exact .inl ((hbit k).1 h3)
  · obtain ⟨p, hp⟩ := hs.gst g hg
    exact ⟨p, by rw [hstk]; exact hp⟩
  · by_cases hkW : k ∈ W
    · have := (hp41 j).2 (hvis k hkW j hj)
      show t.places j ≠ 0
      omega
    · refine (hp0 j).2 (hi.bl k ((hp0 k).1 hk) (fun e => ?_) j hj)
      rcases List.mem_cons.1 e with e1 | e1
      · exact hkW (by rw [e1]; exact hiW)
      · exact hkG e1
  · refine (hp41 j).2 ?_
    rcases (hp41 k).1 hk with h1 | h1
    · exact hvis k h1 j hj
    · exact .inr (hi.cl k h1 j hj)
  · rw [hcm] at hc
    rcases List.mem_append.1 hc with h4 | h4
    · exact hi.scc c h4 x hx y
    · rw [List.mem_singleton] at h4
      subst h4
      have hxW := (hbit x).1 hx
      rw [hbit y]
      constructor
      · intro hyW
        exact ⟨(hto x hxW).1.trans (hto y hyW).2, (hto y hyW).1.trans (hto x hxW).2⟩
      · rintro ⟨h1, h2⟩
        rcases hcl x y (.inl hxW) h1 with h5 | h5
        · exact h5
        · exact absurd (hdw y x h5 h2) (hWn x hxW)
  · show t.comps.Pairwise _
    rw [hcm, List.pairwise_append]
    refine ⟨hi.dis, List.pairwise_singleton _ _, fun a ha b hb j hj => ?_⟩
    rw [List.mem_singleton] at hb
    subst hb
    rw [← Bool.not_eq_true]
    exact fun e => hWn j ((hbit j).1 e) ((hi.dn j).2 ⟨a, ha, hj⟩)
  · rw [hcm] at hc
    rcases List.mem_append.1 hc with h4 | h4
    · exact hi.ne c h4
    · rw [List.mem_singleton] at h4
      subst h4
      exact ⟨i, (hbit i).2 hiW⟩
  · rw [hstk] at hx hy
    exact hi.fw p q x y hpq (pre_get hpre hx) (pre_get hpre hy)
  · rw [hstk] at hx
    obtain ⟨q, g, k1, k2, k3, k4⟩ := hi.bk p x (pre_get hpre hx)
    have h5 := get_lt hx
    rcases List.mem_cons.1 k3 with rfl | k6
    · have := hi.uniq k2 gi
      omega
    · exact ⟨q, g, k1, by rw [hstk]; exact pre_back hpre k2 (by omega), k6, k4⟩
  · have := (hp41 i).2 (.inl hiW)
    show t.places i ≠ 0
    omega
  · have hx' : t.stack[p]? = some x := hx
    rw [hstk] at hx'
    have := get_lt hx'
    omega

theorem visit_tv (att : Nat → BitVec 64) (N : Nat) (hN : N ≤ 40) (ha : ∀ i j, (att i).getLsbD j = true → j < N) : ∀ (f i : Nat) (G : List Nat) (s : St), WF N s → TI att G s → i < N → s.places i = 0 → (∀ g ∈ G, Wy att g i) → zeros N s.places ≤ f → TV att G s i (visitF att f i s)
  | 0, i, G, s, _, _, hi, hz, _, hf => by
    have := zeros_pos hi hz
    omega
  | f + 1, i, G, s, hw, ht, hi, hz, hG, hf => by
    obtain ⟨h1, h2, h3⟩ := enter_wf hw hN hi hz
    have fold : ∀ (l D : List Nat) (r : Int × St), TL att G s i D r → After N (enterF i s) r → (∀ k ∈ l, (att i).getLsbD k = true) → TL att G s i (D ++ l) (l.foldl (stepF (visitF att f)) r) ∧ After N (enterF i s) (l.foldl (stepF (visitF att f)) r) := by
      intro l
      induction l with
      | nil => intro D r a b _; rw [List.append_nil]; exact ⟨a, b⟩
      | cons k l ih =>
        intro D r a b hl
        have hk := hl k (List.mem_cons_self ..)
        have hkN := ha i k hk
        have n1 := a.next (V := visitF att f) hk (fun hz' => by
          have va := visit_after att N hN ha f k r.2 b.wf hkN hz'
          refine ⟨visit_tv att N hN ha f k (i :: G) r.2 b.wf a.inv hkN hz' (fun g hg => ?_) (by have := b.zle; omega), va.pre, va.zs⟩
          rcases List.mem_cons.1 hg with rfl | hg
          · exact Wy.one hk
          · exact (hG g hg).trans (Wy.one hk))
        have n2 := b.step (V := visitF att f) (k := k) (fun s' hs' hz' => visit_after att N hN ha f k s' hs' hkN hz')
        have := ih (D ++ [k]) _ n1 n2 (fun x hx => hl x (List.mem_cons_of_mem _ hx))
        rw [List.append_assoc] at this
        exact this
    have hA : After N (enterF i s) (((s.stack.length + 1 : Nat) : Int), enterF i s) := ⟨h1, List.prefix_refl _, fun _ hk => hk, by constructor <;> (simp only; omega)⟩
    obtain ⟨hF, hFA⟩ := fold (members (att i)) [] _ (enter_tl ht hz hG (by omega)) hA (fun k hk => (mem_members.1 hk).2)
    have hD : ∀ j, (att i).getLsbD j = true → j ∈ [] ++ members (att i) := fun j hj => by
      rw [List.nil_append]
      exact mem_members.2 ⟨by have := ha i j hj; omega, hj⟩
    rw [visitF]
    generalize (members (att i)).foldl (stepF (visitF att f)) (((s.stack.length + 1 : Nat) : Int), enterF i s) = r at *
    unfold leaveF
    split
    · rename_i e
      exact leave_own ht hF hD (by rw [e]; omega) (fun x hx => by have := hFA.wf.nodes x hx; omega)
    · rename_i e
      exact leave_low ht hF hD (fun e2 => e (by rw [e2]; omega))

theorem run_ti (att : Nat → BitVec 64) (N : Nat) (hN : N ≤ 40) (ha : ∀ i j, (att i).getLsbD j = true → j < N) : ∀ k, k ≤ N → TI att [] (runF att N k) ∧ ∀ j, j < k → (runF att N k).places j ≠ 0
  | 0, _ => by
    refine ⟨⟨fun k => .inl rfl, fun p k h => (by cases h), Nat.zero_le _, fun k => ⟨fun h => (by cases h), fun ⟨c, hc, _⟩ => (by cases hc)⟩, fun g hg => (by cases hg), fun k hk => absurd rfl hk, fun k hk => (by cases hk), fun c hc => (by cases hc), List.Pairwise.nil, fun c hc => (by cases hc), fun p q x y _ h => (by cases h), fun p x h => (by cases h)⟩, fun j hj => by omega⟩
  | k + 1, hk => by
    obtain ⟨ih, iv⟩ := run_ti att N hN ha k (by omega)
    have hw := runF_wf att N hN ha k (by omega)
    rw [runF_succ]
    split
    · rename_i hz
      have hv := visit_tv att N hN ha N k [] _ hw ih (by omega) hz (fun g hg => by cases hg) (zeros_N _ _)
      have hva := visit_after att N hN ha N k _ hw (by omega) hz
      refine ⟨hv.inv, fun j hj => ?_⟩
      by_cases e : j = k
      · subst e; exact hv.vis
      · exact fun h0 => iv j (by omega) (hva.zs j h0)
    · rename_i hz
      refine ⟨ih, fun j hj => ?_⟩
      by_cases e : j = k
      · subst e; exact hz
      · exact iv j (by omega)

/-- What the search finds: the classes, each once. -/
theorem run_classes (att : Nat → BitVec 64) (N : Nat) (hN : N ≤ 40) (ha : ∀ i j, (att i).getLsbD j = true → j < N) :
    (∀ c ∈ (runF att N N).comps, ∀ x, c.getLsbD x = true → ∀ y, c.getLsbD y = true ↔ Wy att x y ∧ Wy att y x) ∧
    (∀ j, j < N → ∃ c ∈ (runF att N N).comps, c.getLsbD j = true) ∧ (∀ c ∈ (runF att N N).comps, ∃ j, c.getLsbD j = true) ∧ (∀ c ∈ (runF att N N).comps, ∀ j, c.getLsbD j = true → j < N) ∧
    (runF att N N).comps.Pairwise fun a b => ∀ j, a.getLsbD j = true → b.getLsbD j = false := by
  obtain ⟨h, hv⟩ := run_ti att N hN ha N (Nat.le_refl _)
  refine ⟨h.scc, fun j hj => ?_, h.ne, (runF_wf att N hN ha N (Nat.le_refl _)).sets, h.dis⟩
  rcases h.on j with h1 | ⟨p, h1⟩ | h1
  · exact absurd h1 (hv j hj)
  · obtain ⟨q, g, -, -, hg, -⟩ := h.bk p j h1
    cases hg
  · exact (h.dn j).1 h1
end Go.Proofs.YtcelijjohcfhkaaDoor

namespace Go.Proofs.YtcelijjohcfhkaaDoor
set_option linter.unusedVariables false
set_option linter.unusedSimpArgs false
open Go Go.RowKit Go.Sort

theorem erase_perm {α : Type} : ∀ (l : List α) (k : Nat) (h : k < l.length), (l[k] :: l.eraseIdx k).Perm l
  | x :: t, 0, _ => List.Perm.refl _
  | x :: t, k + 1, h => by
    have ih := erase_perm t k (by simpa using h)
    exact (List.Perm.swap _ _ _).trans (ih.cons x)
theorem countP_lt {α : Type} {p q : α → Bool} : ∀ (l : List α), (∀ x ∈ l, p x = true → q x = true) → (∃ x ∈ l, q x = true ∧ p x = false) → l.countP p < l.countP q
  | [], _, ⟨x, hx, _⟩ => by cases hx
  | a :: l, h, ⟨x, hx, h1, h2⟩ => by
    have hle : l.countP p ≤ l.countP q := List.countP_mono_left (fun y hy => h y (List.mem_cons_of_mem _ hy))
    rw [List.countP_cons, List.countP_cons]
    rcases List.mem_cons.1 hx with rfl | hx
    · rw [h1, h2]
      simp only [Bool.false_eq_true, if_false, if_true]
      omega
    · have ih := countP_lt l (fun y hy => h y (List.mem_cons_of_mem _ hy)) ⟨x, hx, h1, h2⟩
      have ha := h a (List.mem_cons_self ..)
      cases hp : p a <;> cases hq : q a <;> simp_all <;> omega

theorem attOf_bit (rat : Nat → BitVec 64) (S : BitVec 64) (x : Nat) : (attOf rat S).getLsbD x = true ↔ ∃ y, S.getLsbD y = true ∧ (rat y).getLsbD x = true := by
  have gen : ∀ (l : List Nat) (a : BitVec 64), (l.foldl (fun a i => a ||| rat i) a).getLsbD x = true ↔ a.getLsbD x = true ∨ ∃ y ∈ l, (rat y).getLsbD x = true := by
    intro l
    induction l with
    | nil => intro a; simp
    | cons y l ih =>
      intro a
      rw [List.foldl_cons, ih, BitVec.getLsbD_or, Bool.or_eq_true]
      constructor
      · rintro ((h | h) | ⟨z, hz, h⟩)
        · exact .inl h
        · exact .inr ⟨y, List.mem_cons_self .., h⟩
        · exact .inr ⟨z, List.mem_cons_of_mem _ hz, h⟩
      · rintro (h | ⟨z, hz, h⟩)
        · exact .inl (.inl h)
        · rcases List.mem_cons.1 hz with rfl | hz
          · exact .inl (.inr h)
          · exact .inr ⟨z, hz, h⟩
  unfold attOf
  rw [gen]
  constructor
  · rintro (h | ⟨y, hy, h⟩)
    · simp at h
    · exact ⟨y, (mem_members.1 hy).2, h⟩
  · rintro ⟨y, hy, h⟩
    exact .inr ⟨y, mem_members.2 ⟨BitVec.lt_of_getLsbD hy, hy⟩, h⟩
theorem freeB_iff (rat : Nat → BitVec 64) (L c : BitVec 64) : freeB rat L c = true ↔ ∀ x y, c.getLsbD y = true → (rat y).getLsbD x = true → L.getLsbD x = true ∨ c.getLsbD x = true := by
  unfold freeB
  rw [beq_iff_eq]
  constructor
  · intro h x y hy hx
    have h1 := congrArg (fun b : BitVec 64 => b.getLsbD x) h
    have h2 := (attOf_bit rat c x).2 ⟨y, hy, hx⟩
    have h3 := BitVec.lt_of_getLsbD h2
    simp only [BitVec.getLsbD_and, BitVec.getLsbD_not, BitVec.getLsbD_or, h2, h3, decide_true, Bool.true_and, BitVec.getLsbD_zero, Bool.not_eq_false', Bool.or_eq_true] at h1
    exact h1
  · intro h
    apply BitVec.eq_of_getLsbD_eq
    intro x hx
    simp only [BitVec.getLsbD_and, BitVec.getLsbD_not, BitVec.getLsbD_or, hx, decide_true, Bool.true_and, BitVec.getLsbD_zero]
    cases ha : (attOf rat c).getLsbD x
    · rfl
    · obtain ⟨y, hy, hxy⟩ := (attOf_bit rat c x).1 ha
      rcases h x y hy hxy with h1 | h1 <;> simp [h1]

/-- Sets apart from each other. -/
def Apart (a b : BitVec 64) : Prop := ∀ j, a.getLsbD j = true → b.getLsbD j = false
theorem Apart.symm {a b : BitVec 64} (h : Apart a b) : Apart b a := fun j hb => by
  cases ha : a.getLsbD j
  · rfl
  · rw [h j ha] at hb; cases hb

theorem order_ok (rat : Nat → BitVec 64) : ∀ (f : Nat) (r : List (BitVec 64)) (L : BitVec 64) (l : List (BitVec 64)), orderF rat f r L = some l → r.Pairwise Apart → (∀ c ∈ r, Apart c L) →
    l.Perm r ∧ l.Pairwise fun a b => ∀ x y, b.getLsbD x = true → a.getLsbD y = true → (rat y).getLsbD x = false
  | 0, r, L, l, h, _, _ => by
    unfold orderF at h
    split at h
    · rename_i e
      injection h with h
      subst h e
      exact ⟨List.Perm.refl _, List.Pairwise.nil⟩
    · cases h
  | f + 1, r, L, l, h, hd, hL => by
    unfold orderF at h
    split at h
    · rename_i e
      injection h with h
      subst h e
      exact ⟨List.Perm.refl _, List.Pairwise.nil⟩
    · split at h
      · cases h
      · rename_i k hk
        obtain ⟨hkl, hfree, -⟩ := List.findIdx?_eq_some_iff_getElem.1 hk
        have hget : r.getD k 0#64 = r[k] := by rw [List.getD_eq_getElem?_getD, List.getElem?_eq_getElem hkl]; rfl
        rw [hget] at h
        obtain ⟨l', h1, rfl⟩ := Option.map_eq_some_iff.1 h
        have hp := erase_perm r k hkl
        have hd2 : (r[k] :: r.eraseIdx k).Pairwise Apart := (hp.pairwise_iff (fun h => h.symm)).2 hd
        obtain ⟨hd3, hd4⟩ := List.pairwise_cons.1 hd2
        obtain ⟨i1, i2⟩ := order_ok rat f (r.eraseIdx k) (L ||| r[k]) l' h1 hd4 (fun c hc j hj => by
          rw [BitVec.getLsbD_or, hL c ((List.eraseIdx_sublist r k).subset hc) j hj, (hd3 c hc).symm j hj]
          rfl)
        refine ⟨(i1.cons _).trans hp, List.pairwise_cons.2 ⟨fun b hb x y hx hy => ?_, i2⟩⟩
        have hb' := i1.subset hb
        cases hr : (rat y).getLsbD x
        · rfl
        · rcases (freeB_iff rat L r[k]).1 hfree x y hy hr with h2 | h2
          · rw [hL b ((List.eraseIdx_sublist r k).subset hb') x hx] at h2; cases h2
          · rw [hd3 b hb' x h2] at hx; cases hx

/-- What is left of the classes, and what is listed. -/
structure Left (att : Nat → BitVec 64) (N : Nat) (r : List (BitVec 64)) (L : BitVec 64) : Prop where
  dis : r.Pairwise Apart
  scc : ∀ c ∈ r, ∀ x, c.getLsbD x = true → ∀ y, c.getLsbD y = true ↔ Wy att x y ∧ Wy att y x
  ne : ∀ c ∈ r, ∃ j, c.getLsbD j = true
  lt : ∀ c ∈ r, ∀ j, c.getLsbD j = true → j < N
  all : ∀ j, j < N → L.getLsbD j = true ∨ ∃ c ∈ r, c.getLsbD j = true
noncomputable def reachesC (att : Nat → BitVec 64) (c : BitVec 64) (j : Nat) : Bool := @decide (∃ x, c.getLsbD x = true ∧ Wy att j x) (Classical.propDecidable _)
theorem reachesC_iff {att : Nat → BitVec 64} {c : BitVec 64} {j : Nat} : reachesC att c j = true ↔ ∃ x, c.getLsbD x = true ∧ Wy att j x := by unfold reachesC; exact @decide_eq_true_iff _ (Classical.propDecidable _)
theorem Left.free {att rat : Nat → BitVec 64} {N : Nat} {r : List (BitVec 64)} {L : BitVec 64} (h : Left att N r L) (hr : ∀ x y, (rat y).getLsbD x = true → (att x).getLsbD y = true ∧ x < N) : ∀ (m : Nat) (c : BitVec 64), c ∈ r → (List.range N).countP (reachesC att c) ≤ m → ∃ c' ∈ r, freeB rat L c' = true
  | m, c, hc, hm => by
    by_cases hf : freeB rat L c = true
    · exact ⟨c, hc, hf⟩
    · have h1 : ∃ x y, c.getLsbD y = true ∧ (rat y).getLsbD x = true ∧ ¬ L.getLsbD x = true ∧ ¬ c.getLsbD x = true := by
        apply Classical.byContradiction
        intro hn
        apply hf
        rw [freeB_iff]
        intro x y hy hx
        apply Classical.byContradiction
        intro hn2
        exact hn ⟨x, y, hy, hx, fun e => hn2 (.inl e), fun e => hn2 (.inr e)⟩
      obtain ⟨x, y, hy, hx, hxL, hxc⟩ := h1
      obtain ⟨hxy, hxN⟩ := hr x y hx
      obtain ⟨d, hd, hdx⟩ := (h.all x hxN).resolve_left hxL
      have hlt : (List.range N).countP (reachesC att d) < (List.range N).countP (reachesC att c) := by
        refine countP_lt _ (fun j _ hj => ?_) ⟨y, List.mem_range.2 (h.lt c hc y hy), reachesC_iff.2 ⟨y, hy, .here⟩, ?_⟩
        · obtain ⟨z, hz, hw⟩ := reachesC_iff.1 hj
          exact reachesC_iff.2 ⟨y, hy, (hw.trans ((h.scc d hd z hz x).1 hdx).1).step hxy⟩
        · rw [← Bool.not_eq_true]
          intro e
          obtain ⟨z, hz, hw⟩ := reachesC_iff.1 e
          have hyx : Wy att y x := hw.trans ((h.scc d hd z hz x).1 hdx).1
          exact hxc ((h.scc c hc y hy x).2 ⟨hyx, Wy.one hxy⟩)
      match m, hm with
      | 0, hm => omega
      | m + 1, hm => exact Left.free h hr m d hd (by omega)

theorem order_some {att rat : Nat → BitVec 64} {N : Nat} (hr : ∀ x y, (rat y).getLsbD x = true → (att x).getLsbD y = true ∧ x < N) : ∀ (f : Nat) (r : List (BitVec 64)) (L : BitVec 64), r.length ≤ f → Left att N r L → ∃ l, orderF rat f r L = some l
  | 0, r, L, hf, _ => ⟨[], by
    obtain rfl : r = [] := List.eq_nil_of_length_eq_zero (by omega)
    rfl⟩
  | f + 1, r, L, hf, h => by
    unfold orderF
    split
    · exact ⟨_, rfl⟩
    · rename_i hne
      obtain ⟨c, hc⟩ := List.exists_mem_of_ne_nil r hne
      obtain ⟨c', hc', hfree⟩ := h.free hr _ c hc (Nat.le_refl _)
      split
      · rename_i hn
        have := List.findIdx?_eq_none_iff.1 hn c' hc'
        rw [hfree] at this
        cases this
      · rename_i k hk
        obtain ⟨hkl, -, -⟩ := List.findIdx?_eq_some_iff_getElem.1 hk
        have hget : r.getD k 0#64 = r[k] := by rw [List.getD_eq_getElem?_getD, List.getElem?_eq_getElem hkl]; rfl
        rw [hget]
        have hs := List.eraseIdx_sublist r k
        have hp := erase_perm r k hkl
        obtain ⟨l, hl⟩ := order_some hr f (r.eraseIdx k) (L ||| r[k]) (by rw [List.length_eraseIdx, if_pos hkl]; omega) ⟨h.dis.sublist hs, fun c hc => h.scc c (hs.subset hc), fun c hc => h.ne c (hs.subset hc), fun c hc => h.lt c (hs.subset hc), fun j hj => by
          rw [BitVec.getLsbD_or, Bool.or_eq_true]
          rcases h.all j hj with h1 | ⟨c, hc, h1⟩
          · exact .inl (.inl h1)
          · rcases List.mem_cons.1 (hp.symm.subset hc) with rfl | h2
            · exact .inl (.inr h1)
            · exact .inr ⟨c, h2, h1⟩⟩
        exact ⟨_, by rw [hl]; rfl⟩

/-- The components in their order: what the consequences ask of them. -/
structure CompL (N : Nat) (ps : List (Int × Int)) (l : List (BitVec 64)) : Prop where
  scc : ∀ c ∈ l, ∀ x, c.getLsbD x = true → ∀ y, c.getLsbD y = true ↔ Wy (attB ps) x y ∧ Wy (attB ps) y x
  all : ∀ j, j < N → ∃ c ∈ l, c.getLsbD j = true
  ne : ∀ c ∈ l, ∃ j, c.getLsbD j = true
  lt : ∀ c ∈ l, ∀ j, c.getLsbD j = true → j < N
  dis : l.Pairwise Apart
  ord : l.Pairwise fun a b => ∀ x y, b.getLsbD x = true → a.getLsbD y = true → (attB ps x).getLsbD y = false

theorem comp_exists {N : Nat} {ps : List (Int × Int)} (h : GOk (N : Int) ps) : ∃ l, CompOk N ps l ∧ CompL N ps l := by
  have hN : N ≤ 40 := by have := h.n40; omega
  have ha := att_lt h
  have hrev := rev_ok h
  have hrat : ∀ x y, (attB (revL N ps) y).getLsbD x = true ↔ (attB ps x).getLsbD y = true := fun x y => by
    rw [attB_bit ps x y (fun p hp => ⟨(h.ix p hp).2.1, by have := (h.ix p hp).2.2; omega⟩), attB_bit (revL N ps) y x (fun p hp => ⟨(hrev.ix p hp).2.1, by have := (hrev.ix p hp).2.2; omega⟩), decide_eq_true_iff, decide_eq_true_iff, mem_revL]
    exact ⟨fun e => e.2, fun e => ⟨(h.ix _ e).2, e⟩⟩
  have hxN : ∀ x y, (attB ps x).getLsbD y = true → x < N := fun x y e => by
    rw [attB_bit ps x y (fun p hp => ⟨(h.ix p hp).2.1, by have := (h.ix p hp).2.2; omega⟩), decide_eq_true_iff] at e
    have := (h.ix _ e).1.2
    simp only at this
    omega
  obtain ⟨c1, c2, c3, c4, c5⟩ := run_classes (attB ps) N hN ha
  generalize hcs : (runF (attB ps) N N).comps = cs at *
  have hp := List.mergeSort_perm cs (fun a b => decide (ctzB a ≤ ctzB b))
  have hs := List.pairwise_mergeSort (le := fun a b => decide (ctzB a ≤ ctzB b)) (fun a b c h1 h2 => by simp only [decide_eq_true_eq] at *; omega) (fun a b => by simp only [Bool.or_eq_true, decide_eq_true_eq]; omega) cs
  generalize cs.mergeSort (fun a b => decide (ctzB a ≤ ctzB b)) = ss at *
  have hdis : ss.Pairwise Apart := (hp.pairwise_iff (fun h => Apart.symm h)).2 c5
  have hmem : ∀ c, c ∈ ss → c ∈ cs := fun c hc => hp.subset hc
  have hlow : ∀ c, c ∈ ss → c.getLsbD (ctzB c) = true := fun c hc => by
    obtain ⟨j, hj⟩ := c3 c (hmem c hc)
    exact (low_facts (fun e => by rw [e] at hj; simp at hj)).2.1
  have hstrict : ss.Pairwise fun x y => ctzB x < ctzB y := by
    refine List.Pairwise.imp_of_mem (R := fun a b => decide (ctzB a ≤ ctzB b) = true ∧ Apart a b) (fun {a b} ha hb hab => ?_) (hs.and hdis)
    obtain ⟨h1, h2⟩ := hab
    simp only [decide_eq_true_eq] at h1
    rcases Nat.lt_or_eq_of_le h1 with h3 | h3
    · exact h3
    · have h4 := h2 _ (hlow a ha)
      rw [h3, hlow b hb] at h4
      cases h4
  have hleft : Left (attB ps) N ss 0#64 := ⟨hdis, fun c hc => c1 c (hmem c hc), fun c hc => c3 c (hmem c hc), fun c hc => c4 c (hmem c hc), fun j hj => by
    obtain ⟨c, hc, h1⟩ := c2 j hj
    exact .inr ⟨c, hp.symm.subset hc, h1⟩⟩
  obtain ⟨l, hl⟩ := order_some (rat := attB (revL N ps)) (fun x y e => ⟨(hrat x y).1 e, hxN x y ((hrat x y).1 e)⟩) ss.length ss 0#64 (Nat.le_refl _) hleft
  obtain ⟨o1, o2⟩ := order_ok _ _ _ _ _ hl hdis (fun c hc j hj => by simp)
  have hlm : ∀ c, c ∈ l → c ∈ cs := fun c hc => hmem c (o1.subset hc)
  refine ⟨l, ⟨ss, by rw [hcs]; exact hp, hstrict, hl⟩, ⟨fun c hc => c1 c (hlm c hc), fun j hj => ?_, fun c hc => c3 c (hlm c hc), fun c hc => c4 c (hlm c hc), (o1.pairwise_iff (fun h => Apart.symm h)).2 hdis, o2.imp fun {a b} hab x y hx hy => ?_⟩⟩
  · obtain ⟨c, hc, h1⟩ := c2 j hj
    exact ⟨c, o1.symm.subset (hp.symm.subset hc), h1⟩
  · have h1 := hab x y hx hy
    rw [← Bool.not_eq_true] at h1 ⊢
    exact fun e => h1 ((hrat x y).2 e)
end Go.Proofs.YtcelijjohcfhkaaDoor

namespace Go.Proofs.YtcelijjohcfhkaaDoor
set_option linter.unusedVariables false
set_option linter.unusedSimpArgs false
open Go Go.RowKit Go.Sort

theorem att_mem {N : Nat} {ps : List (Int × Int)} (h : GOk (N : Int) ps) (x y : Nat) : (attB ps x).getLsbD y = true ↔ ((x : Int), (y : Int)) ∈ ps := by
  rw [attB_bit ps x y (fun p hp => ⟨(h.ix p hp).2.1, by have := (h.ix p hp).2.2; have := h.n40; omega⟩), decide_eq_true_iff]
theorem wy_rch {N : Nat} {ps : List (Int × Int)} (h : GOk (N : Int) ps) (i j : Nat) : Wy (attB ps) i j ↔ Rch ps i j := by
  constructor
  · intro hw
    induction hw with
    | here => exact .here
    | step _ e ih => exact .step ih ((att_mem h _ _).1 e)
  · intro hw
    induction hw with
    | here => exact .here
    | step _ e ih => exact .step ih ((att_mem h _ _).2 e)
theorem Rch.trans {ps : List (Int × Int)} {i k j : Nat} (h : Rch ps i k) (h2 : Rch ps k j) : Rch ps i j := by
  induction h2 with
  | here => exact h
  | step _ e ih => exact .step ih e
theorem rch_rev1 {N : Nat} {ps : List (Int × Int)} (h : GOk (N : Int) ps) {i j : Nat} (hw : Rch ps i j) : Rch (revL N ps) j i := by
  induction hw with
  | here => exact .here
  | step _ e ih => exact (Rch.step .here (mem_revL.2 ⟨(h.ix _ e).2, e⟩)).trans ih
theorem rch_rev2 {N : Nat} {ps : List (Int × Int)} {i j : Nat} (hw : Rch (revL N ps) j i) : Rch ps i j := by
  induction hw with
  | here => exact .here
  | step _ e ih => exact (Rch.step .here (mem_revL.1 e).2).trans ih
theorem rch_rev {N : Nat} {ps : List (Int × Int)} (h : GOk (N : Int) ps) (i j : Nat) : Rch (revL N ps) j i ↔ Rch ps i j := ⟨rch_rev2, rch_rev1 h⟩
/-- Two nodes are in the same component exactly if each reaches the other. -/
theorem CompL.same {N : Nat} {ps : List (Int × Int)} {l : List (BitVec 64)} (h : CompL N ps l) (hok : GOk (N : Int) ps) {c : BitVec 64} (hc : c ∈ l) {x y : Nat} (hx : c.getLsbD x = true) : c.getLsbD y = true ↔ Rch ps x y ∧ Rch ps y x := by
  rw [h.scc c hc x hx y, wy_rch hok, wy_rch hok]
theorem CompL.uniq {N : Nat} {ps : List (Int × Int)} {l : List (BitVec 64)} (h : CompL N ps l) {a b x : Nat} (ha : a < l.length) (hb : b < l.length) (h1 : l[a].getLsbD x = true) (h2 : l[b].getLsbD x = true) : a = b := by
  rcases Nat.lt_trichotomy a b with h3 | h3 | h3
  · have := List.pairwise_iff_getElem.1 h.dis a b ha hb h3 x h1
    rw [this] at h2; cases h2
  · exact h3
  · have := List.pairwise_iff_getElem.1 h.dis b a hb ha h3 x h2
    rw [this] at h1; cases h1
theorem CompL.fwd {N : Nat} {ps : List (Int × Int)} {l : List (BitVec 64)} (h : CompL N ps l) (hok : GOk (N : Int) ps) {a b x y : Nat} (ha : a < l.length) (hb : b < l.length) (h1 : l[a].getLsbD x = true) (h2 : l[b].getLsbD y = true) (he : ((x : Int), (y : Int)) ∈ ps) : a ≤ b := by
  rcases Nat.lt_or_ge b a with h3 | h3
  · have := List.pairwise_iff_getElem.1 h.ord b a hb ha h3 x y h1 h2
    rw [(att_mem hok x y).2 he] at this; cases this
  · exact h3
theorem CompL.nodup {N : Nat} {ps : List (Int × Int)} {l : List (BitVec 64)} (h : CompL N ps l) : l.Nodup := by
  refine List.Pairwise.imp_of_mem (R := Apart) (fun {a b} ha _ hab e => ?_) h.dis
  subst e
  obtain ⟨j, hj⟩ := h.ne a ha
  have := hab j hj
  rw [hj] at this; cases this
theorem nodup_len {α : Type} [DecidableEq α] : ∀ (l l' : List α), l.Nodup → (∀ x ∈ l, x ∈ l') → l.length ≤ l'.length
  | [], _, _, _ => Nat.zero_le _
  | x :: l, l', hn, hs => by
    obtain ⟨h1, h2⟩ := List.nodup_cons.1 hn
    have hx := hs x (List.mem_cons_self ..)
    have ih := nodup_len l (l'.erase x) h2 (fun y hy => (List.mem_erase_of_ne (fun e => h1 (by rw [← e]; exact hy))).2 (hs y (List.mem_cons_of_mem _ hy)))
    rw [List.length_erase_of_mem hx] at ih
    have := List.length_pos_of_mem hx
    rw [List.length_cons]
    omega
theorem comp_sub {N : Nat} {ps qs : List (Int × Int)} {l l' : List (BitVec 64)} (h : CompL N ps l) (h' : CompL N qs l') (hok : GOk (N : Int) ps) (hok' : GOk (N : Int) qs) (he : ∀ i j, Rch ps i j ∧ Rch ps j i ↔ Rch qs i j ∧ Rch qs j i) : ∀ c ∈ l, c ∈ l' := fun c hc => by
  obtain ⟨j, hj⟩ := h.ne c hc
  obtain ⟨d, hd, hdj⟩ := h'.all j (h.lt c hc j hj)
  have : c = d := by
    apply BitVec.eq_of_getLsbD_eq
    intro y _
    rw [Bool.eq_iff_iff, h.same hok hc hj, h'.same hok' hd hdj]
    exact he j y
  rw [this]
  exact hd
/-- The graph turned round has the same components. -/
theorem comp_rev {N : Nat} {ps : List (Int × Int)} {l l' : List (BitVec 64)} (hok : GOk (N : Int) ps) (h : CompL N ps l) (h' : CompL N (revL N ps) l') : l.length = l'.length ∧ ∀ c ∈ l, c ∈ l' := by
  have he : ∀ i j, Rch ps i j ∧ Rch ps j i ↔ Rch (revL N ps) i j ∧ Rch (revL N ps) j i := fun i j => by
    rw [rch_rev hok, rch_rev hok]
    exact And.comm
  have s1 := comp_sub h h' hok (rev_ok hok) he
  have s2 := comp_sub h' h (rev_ok hok) hok (fun i j => (he i j).symm)
  exact ⟨Nat.le_antisymm (nodup_len _ _ h.nodup s1) (nodup_len _ _ h'.nodup s2), s1⟩
end Go.Proofs.YtcelijjohcfhkaaDoor

namespace Go.Proofs.YtcelijjohcfhkaaDoor
set_option linter.unusedVariables false
set_option linter.unusedSimpArgs false
open Go Go.RowKit Go.Sort

theorem geP_iff {a b : Int × Int} : geP a b = false ↔ a.1 < b.1 ∨ a.1 = b.1 ∧ a.2 < b.2 := by
  unfold geP
  rw [decide_eq_false_iff_not]
  omega
theorem pairs_ext : ∀ (l m : List (Int × Int)), (l.Pairwise fun a b => geP a b = false) → (m.Pairwise fun a b => geP a b = false) → (∀ x, x ∈ l ↔ x ∈ m) → l = m
  | [], [], _, _, _ => rfl
  | [], y :: m, _, _, h => by have := (h y).2 (List.mem_cons_self ..); cases this
  | x :: l, [], _, _, h => by have := (h x).1 (List.mem_cons_self ..); cases this
  | x :: l, y :: m, hl, hm, h => by
    obtain ⟨l1, l2⟩ := List.pairwise_cons.1 hl
    obtain ⟨m1, m2⟩ := List.pairwise_cons.1 hm
    have e : x = y := by
      rcases List.mem_cons.1 ((h x).1 (List.mem_cons_self ..)) with h1 | h1
      · exact h1
      · rcases List.mem_cons.1 ((h y).2 (List.mem_cons_self ..)) with h2 | h2
        · exact h2.symm
        · have := geP_iff.1 (m1 x h1)
          have := geP_iff.1 (l1 y h2)
          omega
    subst e
    rw [pairs_ext l m l2 m2 (fun z => ⟨fun hz => by
      rcases List.mem_cons.1 ((h z).1 (List.mem_cons_of_mem _ hz)) with h1 | h1
      · subst h1
        have := geP_iff.1 (l1 z hz)
        omega
      · exact h1, fun hz => by
      rcases List.mem_cons.1 ((h z).2 (List.mem_cons_of_mem _ hz)) with h1 | h1
      · subst h1
        have := geP_iff.1 (m1 z hz)
        omega
      · exact h1⟩)]
theorem rev_rev {N : Nat} {ps : List (Int × Int)} (h : GOk (N : Int) ps) : revL N (revL N ps) = ps := by
  refine pairs_ext _ _ (rev_ok (rev_ok h)).up h.up (fun x => ?_)
  rw [mem_revL, mem_revL]
  constructor
  · rintro ⟨-, -, h3⟩; exact h3
  · intro hx; exact ⟨(h.ix x hx).1, (h.ix x hx).2, hx⟩
theorem out_rev (ps : List (Int × Int)) (i : Int) (h0 : 0 ≤ i) : ∀ k, outL (revL k ps) i = if i < (k : Int) then inL ps i else []
  | 0 => by
    rw [if_neg (by omega)]
    rfl
  | k + 1 => by
    have ih := out_rev ps i h0 k
    rw [revL_up]
    unfold outL at ih ⊢
    rw [List.filter_append, List.map_append, ih, List.filter_map, List.map_map]
    by_cases e : (k : Int) = i
    · subst e
      rw [if_neg (by omega), if_pos (by omega), List.nil_append]
      have e1 : (inL ps (k : Int)).filter ((fun p : Int × Int => p.1 == (k : Int)) ∘ fun j => ((k : Int), j)) = inL ps (k : Int) := by
        rw [List.filter_eq_self]
        intro a _
        simp
      rw [e1]
      have e2 : ((fun x : Int × Int => x.2) ∘ fun j => ((k : Int), j)) = id := rfl
      rw [e2, List.map_id]
    · have e1 : (inL ps (k : Int)).filter ((fun p : Int × Int => p.1 == i) ∘ fun j => ((k : Int), j)) = [] := by
        rw [List.filter_eq_nil_iff]
        intro a _
        simp only [Function.comp, beq_iff_eq]
        exact e
      rw [e1, List.map_nil, List.append_nil]
      by_cases h2 : i < (k : Int)
      · rw [if_pos h2, if_pos (by omega)]
      · rw [if_neg h2, if_neg (by omega)]
theorem has_rev {N : Nat} {ps : List (Int × Int)} (i k : Nat) (hk : k < N) : decide (((k : Int), (i : Int)) ∈ revL N ps) = decide (((i : Int), (k : Int)) ∈ ps) := by
  rw [decide_eq_decide, mem_revL]
  exact ⟨fun e => e.2, fun e => ⟨⟨by simp only; omega, by simp only; omega⟩, e⟩⟩
theorem reach_mem {N : Nat} {ps : List (Int × Int)} (i k : Nat) (hi : i < N) (hk : k < N) : ((k : Int) ∈ reachL (N : Int) ps (i : Int)) ↔ Rch ps i k := by
  have hix : ixB (i : Int) (N : Int) = true := by unfold ixB; simp; omega
  unfold reachL
  rw [if_pos hix]
  unfold ints reachN
  rw [List.mem_map]
  constructor
  · rintro ⟨x, hx, e⟩
    have e' : (x : Int) = (k : Int) := e
    obtain rfl : x = k := by omega
    have := (List.mem_filter.1 hx).2
    exact rchB_iff.1 this
  · intro h
    exact ⟨k, List.mem_filter.2 ⟨List.mem_range.2 (by simpa using hk), rchB_iff.2 h⟩, rfl⟩
theorem reach_rev {N : Nat} {ps : List (Int × Int)} (h : GOk (N : Int) ps) (i k : Nat) (hi : i < N) (hk : k < N) : decide ((i : Int) ∈ reachL (N : Int) (revL N ps) (k : Int)) = decide ((k : Int) ∈ reachL (N : Int) ps (i : Int)) := by
  rw [decide_eq_decide, reach_mem k i hk hi, reach_mem i k hi hk]
  exact rch_rev h i k
theorem lists_len (l : List (BitVec 64)) : (listsOf l).length = l.length := by unfold listsOf; rw [List.length_map]
theorem lists_in {l l' : List (BitVec 64)} (h : ∀ c ∈ l, c ∈ l') : ∀ z ∈ listsOf l, z ∈ listsOf l' := fun z hz => by
  unfold listsOf at *
  obtain ⟨c, hc, rfl⟩ := List.mem_map.1 hz
  exact List.mem_map.2 ⟨c, h c hc, rfl⟩
theorem lists_short {l : List (BitVec 64)} : ∀ z ∈ listsOf l, z.length ≤ 1000000 := fun z hz => by
  unfold listsOf at hz
  obtain ⟨c, -, rfl⟩ := List.mem_map.1 hz
  rw [ints_len]
  unfold members
  refine Nat.le_trans (List.length_filter_le _ _) ?_
  rw [List.length_range]
  decide
end Go.Proofs.YtcelijjohcfhkaaDoor
