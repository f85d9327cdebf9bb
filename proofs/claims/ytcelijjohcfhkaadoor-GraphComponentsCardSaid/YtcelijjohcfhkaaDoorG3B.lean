/- Tarjan's search: what a visit leaves, and what all visits find. -/
import Derived.Test.YtcelijjohcfhkaaDoorG3A
namespace Go.Proofs.YtcelijjohcfhkaaDoor
set_option linter.unusedVariables false
set_option linter.unusedSimpArgs false
open Go Go.RowKit Go.Sort

theorem leave_low {att : Nat → BitVec 64} {G : List Nat} {s : St} {i : Nat} {D : List Nat} {r : Int × St} (hs : TI att G s) (h : TL att G s i D r) (hD : ∀ j, (att i).getLsbD j = true → j ∈ D) (hne : r.1 ≠ (s.stack.length : Int) + 1) : TV att G s i r := by
  have hpre : s.stack <+: r.2.stack := (List.prefix_append _ _).trans h.pre
  have gi : r.2.stack[s.stack.length]? = some i := pre_get h.pre (by simp)
  have hi := h.inv
  refine ⟨⟨hi.on, hi.at_, hi.short, hi.dn, fun g hg => ?_, fun k hk hkG j hj => ?_, hi.cl, hi.scc, hi.dis, hi.ne, hi.fw, fun p x hx => ?_⟩, (hi.vis gi).1, ?_, fun p x hp hx j hj q hq => h.edge p x hp hx j hj (fun e => by subst e; exact hD j hj) q hq⟩
  · obtain ⟨p, hp⟩ := hs.gst g hg
    exact ⟨p, pre_get hpre hp⟩
  · by_cases e : k = i
    · subst e
      exact h.seen j (hD j hj)
    · exact hi.bl k hk (fun e2 => by
        rcases List.mem_cons.1 e2 with e3 | e3
        · exact e e3
        · exact hkG e3) j hj
  · obtain ⟨q, g, h1, h2, h3, h4⟩ := hi.bk p x hx
    rcases List.mem_cons.1 h3 with rfl | h5
    · obtain rfl := hi.uniq h2 gi
      rcases h.low with h6 | ⟨q', z, h6, -, h7, h8⟩
      · exact absurd h6 hne
      · obtain ⟨q2, g2, k1, k2, k3, k4⟩ := hi.bk q' z h7
        rcases List.mem_cons.1 k3 with rfl | k5
        · have := hi.uniq k2 gi
          omega
        · exact ⟨q2, g2, by omega, k2, k5, (h4.trans h8).trans k4⟩
    · exact ⟨q, g, h1, h2, h5, h4⟩
  · rcases h.low with h6 | h6
    · exact absurd h6 hne
    · exact .inr h6

theorem leave_own {att : Nat → BitVec 64} {G : List Nat} {s : St} {i : Nat} {D : List Nat} {r : Int × St} (hs : TI att G s) (h : TL att G s i D r) (hD : ∀ j, (att i).getLsbD j = true → j ∈ D) (hown : r.1 = (s.stack.length : Int) + 1) (h64 : ∀ x ∈ r.2.stack, x < 64) : TV att G s i (r.1, completeF (s.stack.length + 1) r.2) := by
  have hpre : s.stack <+: r.2.stack := (List.prefix_append _ _).trans h.pre
  have gi : r.2.stack[s.stack.length]? = some i := pre_get h.pre (by simp)
  have hi := h.inv
  have htake : r.2.stack.take (s.stack.length + 1 - 1) = s.stack := by
    rw [Nat.add_sub_cancel]
    exact (List.prefix_iff_eq_take.1 hpre).symm
  have hstk : (completeF (s.stack.length + 1) r.2).stack = s.stack := htake
  have hnew : ∀ x, x ∈ r.2.stack.drop (s.stack.length + 1 - 1) ↔ ∃ p : Nat, s.stack.length ≤ p ∧ r.2.stack[p]? = some x := fun x => by
    rw [Nat.add_sub_cancel]
    exact mem_drop_iff
  have hpl : ∀ k, (completeF (s.stack.length + 1) r.2).places k = if k ∈ r.2.stack.drop (s.stack.length + 1 - 1) then 41 else r.2.places k := fun k => rfl
  have hcm : (completeF (s.stack.length + 1) r.2).comps = r.2.comps ++ [setOf (r.2.stack.drop (s.stack.length + 1 - 1))] := rfl
  have hbit : ∀ j, (setOf (r.2.stack.drop (s.stack.length + 1 - 1))).getLsbD j = true ↔ j ∈ r.2.stack.drop (s.stack.length + 1 - 1) := fun j => by
    rw [setOf_bit _ _ (fun x hx => h64 x (List.mem_of_mem_drop hx))]
    exact decide_eq_true_iff
  generalize completeF (s.stack.length + 1) r.2 = t at *
  generalize r.2.stack.drop (s.stack.length + 1 - 1) = W at *
  have hGW : ∀ x, x ∈ W → x ∉ G := fun x hx hg => by
    obtain ⟨p, h1, h2⟩ := (hnew x).1 hx
    obtain ⟨q, h3⟩ := hs.gst x hg
    have := hi.uniq h2 (pre_get hpre h3)
    have := get_lt h3
    omega
  have hvis : ∀ x, x ∈ W → ∀ j, (att x).getLsbD j = true → j ∈ W ∨ r.2.places j = 41 := fun x hx j hj => by
    obtain ⟨p, h1, h2⟩ := (hnew x).1 hx
    have hv : r.2.places j ≠ 0 := by
      by_cases e : x = i
      · subst e
        exact h.seen j (hD j hj)
      · exact hi.bl x (hi.vis h2).1 (fun e2 => by
          rcases List.mem_cons.1 e2 with e3 | e3
          · exact e e3
          · exact hGW x hx e3) j hj
    rcases hi.on j with h3 | ⟨q, h3⟩ | h3
    · exact absurd h3 hv
    · rcases Nat.lt_or_ge q s.stack.length with h4 | h4
      · have := h.edge p x h1 h2 j hj (fun e => by subst e; exact hD j hj) q (pre_back hpre h3 h4)
        omega
      · exact .inl ((hnew j).2 ⟨q, h4, h3⟩)
    · exact .inr h3
  have hcl : ∀ x y, (x ∈ W ∨ r.2.places x = 41) → Wy att x y → (y ∈ W ∨ r.2.places y = 41) := fun x y hx hw => by
    induction hw with
    | here => exact hx
    | step _ e ih =>
      rcases ih with h1 | h1
      · exact hvis _ h1 _ e
      · exact .inr (hi.cl _ h1 _ e)
  have hdw : ∀ x y, r.2.places x = 41 → Wy att x y → r.2.places y = 41 := fun x y hx hw => by
    induction hw with
    | here => exact hx
    | step _ e ih => exact hi.cl _ ih _ e
  have hWn : ∀ x, x ∈ W → r.2.places x ≠ 41 := fun x hx => by
    obtain ⟨p, -, h2⟩ := (hnew x).1 hx
    exact (hi.vis h2).2
  have hiW : i ∈ W := (hnew i).2 ⟨_, Nat.le_refl _, gi⟩
  have hto : ∀ x, x ∈ W → Wy att x i ∧ Wy att i x := fun x hx => by
    obtain ⟨p, h1, h2⟩ := (hnew x).1 hx
    refine ⟨?_, hi.fw _ p i x h1 gi h2⟩
    obtain ⟨q, g, k1, k2, k3, k4⟩ := hi.bk p x h2
    rcases hcl x g (.inl hx) k4 with k5 | k5
    · rcases List.mem_cons.1 k3 with rfl | k6
      · exact k4
      · exact absurd k6 (hGW g k5)
    · exact absurd k5 (hi.vis k2).2
  have hp41 : ∀ k, t.places k = 41 ↔ k ∈ W ∨ r.2.places k = 41 := fun k => by
    rw [hpl k]
    split
    · rename_i hk
      exact ⟨fun _ => .inl hk, fun _ => rfl⟩
    · rename_i hk
      exact ⟨fun e => .inr e, fun e => e.resolve_left hk⟩
  have hp0 : ∀ k, t.places k ≠ 0 ↔ r.2.places k ≠ 0 := fun k => by
    rw [hpl k]
    split
    · rename_i hk
      obtain ⟨p, -, h2⟩ := (hnew k).1 hk
      exact ⟨fun _ => (hi.vis h2).1, fun _ => (by decide)⟩
    · exact Iff.rfl
  have hold : ∀ {p k : Nat}, s.stack[p]? = some k → k ∉ W := fun {p k} hp hk => by
    obtain ⟨q, h1, h2⟩ := (hnew k).1 hk
    have := hi.uniq h2 (pre_get hpre hp)
    have := get_lt hp
    omega
  refine ⟨⟨fun k => ?_, fun p k hp => ?_, ?_, fun k => ?_, fun g hg => ?_, fun k hk hkG j hj => ?_, fun k hk j hj => ?_, fun c hc x hx y => ?_, ?_, fun c hc => ?_, fun p q x y hpq hx hy => ?_, fun p x hx => ?_⟩, ?_, .inl ⟨hown, hstk⟩, fun p x hp hx => ?_⟩
  · rw [hpl k]
    split
    · exact .inr (.inr rfl)
    · rename_i hk
      rcases hi.on k with h1 | ⟨p, h1⟩ | h1
      · exact .inl h1
      · rcases Nat.lt_or_ge p s.stack.length with h4 | h4
        · exact .inr (.inl ⟨p, by rw [hstk]; exact pre_back hpre h1 h4⟩)
        · exact absurd ((hnew k).2 ⟨p, h4, h1⟩) hk
      · exact .inr (.inr h1)
  · rw [hstk] at hp
    rw [hpl k, if_neg (hold hp)]
    exact hi.at_ p k (pre_get hpre hp)
  · rw [hstk]
    exact hs.short
  · rw [hp41 k, hcm]
    constructor
    · rintro (h1 | h1)
      · exact ⟨_, List.mem_append_right _ (List.mem_singleton.2 rfl), (hbit k).2 h1⟩
      · obtain ⟨c, h2, h3⟩ := (hi.dn k).1 h1
        exact ⟨c, List.mem_append_left _ h2, h3⟩
    · rintro ⟨c, h2, h3⟩
      rcases List.mem_append.1 h2 with h4 | h4
      · exact .inr ((hi.dn k).2 ⟨c, h4, h3⟩)
      · rw [List.mem_singleton] at h4
        subst h4
        exact .inl ((hbit k).1 h3)
  · obtain ⟨p, hp⟩ := hs.gst g hg
    exact ⟨p, by rw [hstk]; exact hp⟩
  · by_cases hkW : k ∈ W
    · have := (hp41 j).2 (hvis k hkW j hj)
      show t.places j ≠ 0
      omega
    · refine (hp0 j).2 (hi.bl k ((hp0 k).1 hk) (fun e => ?_) j hj)
      rcases List.mem_cons.1 e with e1 | e1
      · exact hkW (by rw [e1]; exact hiW)
      · exact hkG e1
  · refine (hp41 j).2 ?_
    rcases (hp41 k).1 hk with h1 | h1
    · exact hvis k h1 j hj
    · exact .inr (hi.cl k h1 j hj)
  · rw [hcm] at hc
    rcases List.mem_append.1 hc with h4 | h4
    · exact hi.scc c h4 x hx y
    · rw [List.mem_singleton] at h4
      subst h4
      have hxW := (hbit x).1 hx
      rw [hbit y]
      constructor
      · intro hyW
        exact ⟨(hto x hxW).1.trans (hto y hyW).2, (hto y hyW).1.trans (hto x hxW).2⟩
      · rintro ⟨h1, h2⟩
        rcases hcl x y (.inl hxW) h1 with h5 | h5
        · exact h5
        · exact absurd (hdw y x h5 h2) (hWn x hxW)
  · show t.comps.Pairwise _
    rw [hcm, List.pairwise_append]
    refine ⟨hi.dis, List.pairwise_singleton _ _, fun a ha b hb j hj => ?_⟩
    rw [List.mem_singleton] at hb
    subst hb
    rw [← Bool.not_eq_true]
    exact fun e => hWn j ((hbit j).1 e) ((hi.dn j).2 ⟨a, ha, hj⟩)
  · rw [hcm] at hc
    rcases List.mem_append.1 hc with h4 | h4
    · exact hi.ne c h4
    · rw [List.mem_singleton] at h4
      subst h4
      exact ⟨i, (hbit i).2 hiW⟩
  · rw [hstk] at hx hy
    exact hi.fw p q x y hpq (pre_get hpre hx) (pre_get hpre hy)
  · rw [hstk] at hx
    obtain ⟨q, g, k1, k2, k3, k4⟩ := hi.bk p x (pre_get hpre hx)
    have h5 := get_lt hx
    rcases List.mem_cons.1 k3 with rfl | k6
    · have := hi.uniq k2 gi
      omega
    · exact ⟨q, g, k1, by rw [hstk]; exact pre_back hpre k2 (by omega), k6, k4⟩
  · have := (hp41 i).2 (.inl hiW)
    show t.places i ≠ 0
    omega
  · have hx' : t.stack[p]? = some x := hx
    rw [hstk] at hx'
    have := get_lt hx'
    omega

theorem visit_tv (att : Nat → BitVec 64) (N : Nat) (hN : N ≤ 40) (ha : ∀ i j, (att i).getLsbD j = true → j < N) : ∀ (f i : Nat) (G : List Nat) (s : St), WF N s → TI att G s → i < N → s.places i = 0 → (∀ g ∈ G, Wy att g i) → zeros N s.places ≤ f → TV att G s i (visitF att f i s)
  | 0, i, G, s, _, _, hi, hz, _, hf => by
    have := zeros_pos hi hz
    omega
  | f + 1, i, G, s, hw, ht, hi, hz, hG, hf => by
    obtain ⟨h1, h2, h3⟩ := enter_wf hw hN hi hz
    have fold : ∀ (l D : List Nat) (r : Int × St), TL att G s i D r → After N (enterF i s) r → (∀ k ∈ l, (att i).getLsbD k = true) → TL att G s i (D ++ l) (l.foldl (stepF (visitF att f)) r) ∧ After N (enterF i s) (l.foldl (stepF (visitF att f)) r) := by
      intro l
      induction l with
      | nil => intro D r a b _; rw [List.append_nil]; exact ⟨a, b⟩
      | cons k l ih =>
        intro D r a b hl
        have hk := hl k (List.mem_cons_self ..)
        have hkN := ha i k hk
        have n1 := a.next (V := visitF att f) hk (fun hz' => by
          have va := visit_after att N hN ha f k r.2 b.wf hkN hz'
          refine ⟨visit_tv att N hN ha f k (i :: G) r.2 b.wf a.inv hkN hz' (fun g hg => ?_) (by have := b.zle; omega), va.pre, va.zs⟩
          rcases List.mem_cons.1 hg with rfl | hg
          · exact Wy.one hk
          · exact (hG g hg).trans (Wy.one hk))
        have n2 := b.step (V := visitF att f) (k := k) (fun s' hs' hz' => visit_after att N hN ha f k s' hs' hkN hz')
        have := ih (D ++ [k]) _ n1 n2 (fun x hx => hl x (List.mem_cons_of_mem _ hx))
        rw [List.append_assoc] at this
        exact this
    have hA : After N (enterF i s) (((s.stack.length + 1 : Nat) : Int), enterF i s) := ⟨h1, List.prefix_refl _, fun _ hk => hk, by constructor <;> (simp only; omega)⟩
    obtain ⟨hF, hFA⟩ := fold (members (att i)) [] _ (enter_tl ht hz hG (by omega)) hA (fun k hk => (mem_members.1 hk).2)
    have hD : ∀ j, (att i).getLsbD j = true → j ∈ [] ++ members (att i) := fun j hj => by
      rw [List.nil_append]
      exact mem_members.2 ⟨by have := ha i j hj; omega, hj⟩
    rw [visitF]
    generalize (members (att i)).foldl (stepF (visitF att f)) (((s.stack.length + 1 : Nat) : Int), enterF i s) = r at *
    unfold leaveF
    split
    · rename_i e
      exact leave_own ht hF hD (by rw [e]; omega) (fun x hx => by have := hFA.wf.nodes x hx; omega)
    · rename_i e
      exact leave_low ht hF hD (fun e2 => e (by rw [e2]; omega))

theorem run_ti (att : Nat → BitVec 64) (N : Nat) (hN : N ≤ 40) (ha : ∀ i j, (att i).getLsbD j = true → j < N) : ∀ k, k ≤ N → TI att [] (runF att N k) ∧ ∀ j, j < k → (runF att N k).places j ≠ 0
  | 0, _ => by
    refine ⟨⟨fun k => .inl rfl, fun p k h => (by cases h), Nat.zero_le _, fun k => ⟨fun h => (by cases h), fun ⟨c, hc, _⟩ => (by cases hc)⟩, fun g hg => (by cases hg), fun k hk => absurd rfl hk, fun k hk => (by cases hk), fun c hc => (by cases hc), List.Pairwise.nil, fun c hc => (by cases hc), fun p q x y _ h => (by cases h), fun p x h => (by cases h)⟩, fun j hj => by omega⟩
  | k + 1, hk => by
    obtain ⟨ih, iv⟩ := run_ti att N hN ha k (by omega)
    have hw := runF_wf att N hN ha k (by omega)
    rw [runF_succ]
    split
    · rename_i hz
      have hv := visit_tv att N hN ha N k [] _ hw ih (by omega) hz (fun g hg => by cases hg) (zeros_N _ _)
      have hva := visit_after att N hN ha N k _ hw (by omega) hz
      refine ⟨hv.inv, fun j hj => ?_⟩
      by_cases e : j = k
      · subst e; exact hv.vis
      · exact fun h0 => iv j (by omega) (hva.zs j h0)
    · rename_i hz
      refine ⟨ih, fun j hj => ?_⟩
      by_cases e : j = k
      · subst e; exact hz
      · exact iv j (by omega)

/-- What the search finds: the classes, each once. -/
theorem run_classes (att : Nat → BitVec 64) (N : Nat) (hN : N ≤ 40) (ha : ∀ i j, (att i).getLsbD j = true → j < N) :
    (∀ c ∈ (runF att N N).comps, ∀ x, c.getLsbD x = true → ∀ y, c.getLsbD y = true ↔ Wy att x y ∧ Wy att y x) ∧
    (∀ j, j < N → ∃ c ∈ (runF att N N).comps, c.getLsbD j = true) ∧ (∀ c ∈ (runF att N N).comps, ∃ j, c.getLsbD j = true) ∧ (∀ c ∈ (runF att N N).comps, ∀ j, c.getLsbD j = true → j < N) ∧
    (runF att N N).comps.Pairwise fun a b => ∀ j, a.getLsbD j = true → b.getLsbD j = false := by
  obtain ⟨h, hv⟩ := run_ti att N hN ha N (Nat.le_refl _)
  refine ⟨h.scc, fun j hj => ?_, h.ne, (runF_wf att N hN ha N (Nat.le_refl _)).sets, h.dis⟩
  rcases h.on j with h1 | ⟨p, h1⟩ | h1
  · exact absurd h1 (hv j hj)
  · obtain ⟨q, g, -, -, hg, -⟩ := h.bk p j h1
    cases hg
  · exact (h.dn j).1 h1
end Go.Proofs.YtcelijjohcfhkaaDoor
