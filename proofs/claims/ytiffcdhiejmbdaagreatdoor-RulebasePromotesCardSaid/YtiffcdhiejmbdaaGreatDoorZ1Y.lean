/- The reference's Has at a body; what promotions do, purely. The reference's Promote under way. The reference's Promote, for every rule base and list of literals. -/
import Derived.Test.YtiffcdhiejmbdaaGreatDoorZ1P5e
import Derived.Test.YtiffcdhiejmbdaaGreatDoorZ1X

namespace Go.Proofs.YtiffcdhiejmbdaaGreatDoor
set_option linter.unusedVariables false
set_option linter.unusedSimpArgs false
open Go Go.RowKit

theorem mem_take5 {xs : List Lt} {x : Lt} {k : Nat} (hk : k < xs.length) : x ∈ xs.take (k + 1) ↔ x ∈ xs.take k ∨ x = xs[k]! := by
  rw [List.take_succ_eq_append_getElem hk, List.mem_append, List.mem_singleton, getElem!_pos xs k hk]

set_option maxRecDepth 100000 in
set_option maxHeartbeats 1000000 in
theorem rHas5_any (v : Value) (xs : List Lt) (x : Lt) (w : World) (h : BodyAt w v xs) (hn : xs.length ≤ 1000000) :
    Calls Tryz.prog 53 #[v, .agg #[.bool x.neg, .string x.name]] w fun e w' => e = .returned (.bool (decide (x ∈ xs))) ∧ Below w.heap.size w w' := by
  obtain ⟨a, c, rfl, -, -, hrow⟩ := h.form
  have K1 : Hid (∀ i, i < xs.length → ∃ b off, a = some ⟨b, off, none⟩ ∧ w.cell? ⟨b, off + i * 2, none⟩ = some (.bool (xs[i]!).neg) ∧ w.cell? ⟨b, off + i * 2 + 1, none⟩ = some (.string (xs[i]!).name)) := fun i hi => by
    obtain ⟨b, off, e, -, p0, p1⟩ := hrow i hi
    rw [getElem!_pos xs i hi]
    exact ⟨b, off, e, p0, p1⟩
  clear hrow h
  obtain ⟨gx, sx⟩ := x
  have HB0 : Hid (Below w.heap.size w (w.alloc (.cells #[.bool gx, .string sx] 28))) := (Below.refl _ _).alloc (Nat.le_refl _) _
  have hx0 := cell_two0 (heap_alloc_new w (.cells #[.bool gx, .string sx] 28))
  have hx1 := cell_two1 (heap_alloc_new w (.cells #[.bool gx, .string sx] 28))
  have K2 : Hid (∀ i, i < xs.length → ∃ b off, a = some ⟨b, off, none⟩ ∧ (w.alloc (.cells #[.bool gx, .string sx] 28)).cell? ⟨b, off + i * 2, none⟩ = some (.bool (xs[i]!).neg) ∧ (w.alloc (.cells #[.bool gx, .string sx] 28)).cell? ⟨b, off + i * 2 + 1, none⟩ = some (.string (xs[i]!).name)) := fun i hi => by
    obtain ⟨b, off, e, p0, p1⟩ := K1.out i hi
    exact ⟨b, off, e, (HB0.out.cell (p := ⟨b, off + i * 2, none⟩) (World.block_lt_of_cell? w _ p0)).trans p0, (HB0.out.cell (p := ⟨b, off + i * 2 + 1, none⟩) (World.block_lt_of_cell? w _ p1)).trans p1⟩
  clear K1
  go_enter Tryz.func53, Tryz.ntmps53
  go_wp2_with fail
  generalize (w.alloc (.cells #[.bool gx, .string sx] 28)) = w0 at *
  go_loopw [5] (fun i wr => ∃ k n : Nat, k ≤ xs.length ∧ i = .int .i64 k ∧ Hid ((⟨gx, sx⟩ : Lt) ∉ xs.take k) ∧ wr = w0.drewN n) (fun i _ => xs.length - (intOf i).toNat)
  case atStart => exact ⟨0, 0, Nat.zero_le _, rfl, (by simp : _ ∉ xs.take 0), rfl⟩
  case round =>
    obtain ⟨k, n, hk, rfl, hno, rfl⟩ := hrel
    by_cases hlt : k < xs.length
    · obtain ⟨b1, o1, rfl, p0, p1⟩ := K2.out k hlt
      have hst := hidIt (mem_take5 (x := (⟨gx, sx⟩ : Lt)) hlt)
      have hmem : Hid (xs[k]! ∈ xs) := by show _ ∈ _; rw [getElem!_pos xs k hlt]; exact List.getElem_mem hlt
      generalize xs[k]! = y at *
      obtain ⟨gy, sy⟩ := y
      simp only at p0 p1
      have hgd := fun (op : BinOp) (a b : Operand) (w : World) => gdL op a b gy gx sy sx w
      cases hxy : decide ((⟨gy, sy⟩ : Lt) = ⟨gx, sx⟩)
      · have hq : ∀ w, (Op.equalIn 10000 28 (.agg #[.bool gy, .string sy]) (.agg #[.bool gx, .string sx])).run Tryz.prog w = .ok false w := fun w => by rw [eqFieldsL gy gx sy sx, hxy]
        have HXY := hidIt (of_decide_eq_false hxy)
        clear hxy
        go_wp2_with fail
        go_quiet (fail)
        go_wp2
        go_roundw
        case rel => exact ⟨k + 1, _, by omega, by go_num, (fun hm => by rcases hst.out.1 hm with h1 | h1; exact hno.out h1; exact HXY.out h1.symm : _ ∉ _), rfl⟩
        case measure => simp [intOf]; omega
      · have hq : ∀ w, (Op.equalIn 10000 28 (.agg #[.bool gy, .string sy]) (.agg #[.bool gx, .string sx])).run Tryz.prog w = .ok true w := fun w => by rw [eqFieldsL gy gx sy sx, hxy]
        have HXY := hidIt (of_decide_eq_true hxy)
        clear hxy
        go_wp2_with fail
        go_quiet (fail)
        go_wp2
        go_ret
        exact ⟨ret_bool (by rw [eq_comm, decide_eq_true_eq]; rw [← HXY.out]; exact hmem.out), HB0.out.trans ⟨rfl, rfl, rfl, Nat.le_refl _, fun _ _ => rfl⟩⟩
    · go_wp2
      go_ret
      refine ⟨ret_bool ?_, HB0.out.trans ⟨rfl, rfl, rfl, Nat.le_refl _, fun _ _ => rfl⟩⟩
      have h1 := hno.out
      rw [List.take_of_length_le (by omega)] at h1
      rw [eq_comm, decide_eq_false_iff_not]
      exact h1

theorem lastRank_some {acc : List Lt} {nm : ByteArray} {z : Int} {qs : List Pr} (h : lastRank acc nm qs = some z) : ∃ q ∈ qs, q.rank = z := by
  have : ∀ (l : List Pr) (o : Option Int), l.foldl (fun o q => if decide (q.lit ∈ acc) && decide (q.rule = nm) then some q.rank else o) o = some z → o = some z ∨ ∃ q ∈ l, q.rank = z := by
    intro l
    induction l with
    | nil => exact fun o h => .inl h
    | cons x r ih =>
      intro o h
      rw [List.foldl_cons] at h
      rcases ih _ h with h1 | ⟨q, hq, e⟩
      · split at h1
        · injection h1 with h1
          exact .inr ⟨x, List.mem_cons_self, h1⟩
        · exact .inl h1
      · exact .inr ⟨q, List.mem_cons_of_mem _ hq, e⟩
  rcases this qs none h with h1 | h1
  · cases h1
  · exact h1
theorem lastRank_none (nm : ByteArray) (qs : List Pr) : lastRank [] nm qs = none := by
  unfold lastRank
  induction qs with
  | nil => rfl
  | cons x r ih =>
    rw [List.foldl_cons, if_neg (by simp)]
    exact ih
section
variable (qs : List Pr) (acc : List Lt) (r : Ru)
theorem promR_name : (promR qs acc r).name = r.name := by
  unfold promR
  split
  · rfl
  · split <;> rfl
theorem promR_strict : (promR qs acc r).strict = r.strict := by
  unfold promR
  split
  · rfl
  · split <;> rfl
theorem promR_body : (promR qs acc r).body = r.body := by
  unfold promR
  split
  · rfl
  · split <;> rfl
theorem promR_head : (promR qs acc r).head = r.head := by
  unfold promR
  split
  · rfl
  · split <;> rfl
theorem promR_rank : (promR qs acc r).rank = r.rank ∨ (r.strict = false ∧ ∃ q ∈ qs, q.rank = (promR qs acc r).rank) := by
  unfold promR
  split
  · exact .inl rfl
  · rename_i hs
    split
    · rename_i z hz
      exact .inr ⟨by simpa using hs, lastRank_some hz⟩
    · exact .inl rfl
theorem promR_none : promR [] acc r = r := by
  unfold promR
  split
  · rfl
  · rfl
theorem promR_empty : promR qs [] r = r := by
  unfold promR
  rw [lastRank_none]
  split <;> rfl
theorem promR_snoc (q : Pr) : promR (qs ++ [q]) acc r = if q.rule = r.name ∧ r.strict = false ∧ q.lit ∈ acc then ⟨r.name, r.strict, q.rank, r.body, r.head⟩ else promR qs acc r := by
  by_cases hs : r.strict = true
  · rw [if_neg (fun h => by rw [hs] at h; exact absurd h.2.1 (by decide))]
    unfold promR
    rw [if_pos hs, if_pos hs]
  · have hs' : r.strict = false := by simpa using hs
    unfold promR
    rw [if_neg hs, if_neg hs, lastRank_snoc]
    by_cases h1 : q.rule = r.name
    · by_cases h2 : q.lit ∈ acc
      · have hc : q.rule = r.name ∧ r.strict = false ∧ q.lit ∈ acc := ⟨h1, hs', h2⟩
        rw [if_pos hc, if_pos (show (decide (q.lit ∈ acc) && decide (q.rule = r.name)) = true by simp [h1, h2])]
      · have hc : ¬ (q.rule = r.name ∧ r.strict = false ∧ q.lit ∈ acc) := fun h => h2 h.2.2
        rw [if_neg hc, if_neg (show ¬ (decide (q.lit ∈ acc) && decide (q.rule = r.name)) = true by simp [h2])]
    · have hc : ¬ (q.rule = r.name ∧ r.strict = false ∧ q.lit ∈ acc) := fun h => h1 h.1
      rw [if_neg hc, if_neg (show ¬ (decide (q.lit ∈ acc) && decide (q.rule = r.name)) = true by simp [h1])]
theorem promR_twice : promR qs acc (promR qs acc r) = promR qs acc r := by
  by_cases hs : r.strict = true
  · have h1 : promR qs acc r = r := by unfold promR; rw [if_pos hs]
    rw [h1, h1]
  · cases hl : lastRank acc r.name qs with
    | none =>
      have h1 : promR qs acc r = r := by unfold promR; rw [if_neg hs, hl]
      rw [h1, h1]
    | some z =>
      have h1 : promR qs acc r = ⟨r.name, r.strict, z, r.body, r.head⟩ := by unfold promR; rw [if_neg hs, hl]
      rw [h1]
      unfold promR
      rw [if_neg hs]
      simp only [hl]
end
theorem promB_empty (b : Bs) : promB b [] = b := by
  unfold promB
  have : (b.rules.map (promR b.proms [])) = b.rules := by
    rw [show promR b.proms [] = id from funext fun r => promR_empty _ r, List.map_id]
  rw [this]
theorem promB_twice (b : Bs) (xs : List Lt) : promB (promB b xs) xs = promB b xs := by
  unfold promB
  simp only [List.map_map]
  rw [show promR b.proms xs ∘ promR b.proms xs = promR b.proms xs from funext fun r => promR_twice _ _ r]
theorem promB_ok {b : Bs} (xs : List Lt) (h : BsOk b) : BsOk (promB b xs) := by
  refine ⟨h.1, fun r hr => ?_, h.2.2⟩
  obtain ⟨r0, h0, rfl⟩ := List.mem_map.1 hr
  obtain ⟨k1, k2, k3, k4⟩ := h.2.1 r0 h0
  refine ⟨by rw [promR_name]; exact k1, ?_, by rw [promR_head]; exact k3, by rw [promR_body]; exact k4⟩
  rcases promR_rank b.proms xs r0 with e | ⟨-, q, hq, e⟩
  · rw [e]; exact k2
  · rw [← e]; exact (h.2.2 q hq).2.1
theorem posI_prom (b : Bs) (xs : List Lt) (nm : ByteArray) : posI (hasName nm) (b.rules.map (promR b.proms xs)) = posI (hasName nm) b.rules := by
  unfold posI
  rw [List.findIdx_map, List.length_map, show hasName nm ∘ promR b.proms xs = hasName nm from funext fun r => by show hasName nm (promR b.proms xs r) = hasName nm r; unfold hasName; rw [promR_name]]
theorem promB_valid {b : Bs} (xs : List Lt) (h : baseE b = 0) : baseE (promB b xs) = 0 := by
  unfold baseE at h
  split at h
  · cases h
  rename_i hlen
  split at h
  · exact absurd h (by assumption)
  rename_i hp
  split at h
  · exact absurd h (by assumption)
  rename_i hr
  have hq := h
  have hp' : errUp (premF b) b.prems.length = 0 := Classical.not_not.1 hp
  have hr' : errUp (ruleF b) b.rules.length = 0 := Classical.not_not.1 hr
  have hpr : ∀ q ∈ b.proms, promE b q = 0 := fun q hq2 => by
    obtain ⟨i, hi, rfl⟩ := List.getElem_of_mem hq2
    have := errUp_zero _ hq i hi
    unfold promF at this
    rwa [dif_pos hi] at this
  unfold baseE
  have e1 : (promB b xs).prems = b.prems := rfl
  have e2 : (promB b xs).rules.length = b.rules.length := by show (b.rules.map _).length = _; rw [List.length_map]
  have e3 : (promB b xs).proms = b.proms := rfl
  have g1 : errUp (premF (promB b xs)) (promB b xs).prems.length = 0 := hp'
  have g2 : errUp (ruleF (promB b xs)) (promB b xs).rules.length = 0 := by
    refine errUp_none _ fun i hi => ?_
    have hi' : i < b.rules.length := by rw [← e2]; exact hi
    have h0 := errUp_zero _ hr' i hi'
    unfold ruleF at h0 ⊢
    rw [dif_pos hi'] at h0
    rw [dif_pos hi]
    have er : (promB b xs).rules[i] = promR b.proms xs b.rules[i] := List.getElem_map _
    rw [er]
    generalize b.rules[i] = r at h0 ⊢
    unfold ruleE at h0 ⊢
    rw [promR_body, promR_name, show (promB b xs).rules = b.rules.map (promR b.proms xs) from rfl, posI_prom]
    have hB : ruleB r = true → ruleB (promR b.proms xs r) = true := by
      unfold ruleB
      rw [promR_name, promR_head, promR_body, promR_strict]
      intro hB
      rcases promR_rank b.proms xs r with e | ⟨hs, q, hq2, e⟩
      · rw [e]; exact hB
      · have h1 := hpr q hq2
        unfold promE at h1
        split at h1
        · cases h1
        · rename_i h2
          have h3 : rankB q.rank true = true := by
            have h4 : (rankB q.rank true && vn q.lit.name) = true := by simpa using h2
            rw [Bool.and_eq_true] at h4; exact h4.1
          rw [← e, hs]
          simp only [Bool.and_eq_true] at hB ⊢
          exact ⟨hB.1, h3, hB.2.2⟩
    split at h0
    · cases h0
    split at h0
    · cases h0
    rename_i h4 hb
    rw [if_neg h4, if_neg (by rw [hB (by simpa using hb)]; decide)]
    exact h0
  have g3 : errUp (promF (promB b xs)) (promB b xs).proms.length = 0 := by
    refine errUp_none _ fun i hi => ?_
    have hi' : i < b.proms.length := hi
    have h0 := hpr _ (List.getElem_mem hi')
    unfold promF
    rw [dif_pos hi]
    show promE (promB b xs) b.proms[i] = 0
    generalize b.proms[i] = q at h0 ⊢
    unfold promE at h0 ⊢
    rw [show (promB b xs).rules = b.rules.map (promR b.proms xs) from rfl, posI_prom]
    have hst : ∀ z, strictAt (promB b xs) z = strictAt b z := fun z => by
      unfold strictAt
      rw [show (promB b xs).rules = b.rules.map (promR b.proms xs) from rfl, List.getElem?_map]
      cases b.rules[z.toNat]? with
      | none => rfl
      | some r => exact promR_strict _ _ r
    rw [hst]
    exact h0
  rw [e1, e2, e3, if_neg hlen]
  rw [e1] at g1
  rw [e2] at g2
  rw [e3] at g3
  rw [if_neg (by rw [g1]; exact fun h => h rfl), if_neg (by rw [g2]; exact fun h => h rfl), g3]
end Go.Proofs.YtiffcdhiejmbdaaGreatDoor

namespace Go.Proofs.YtiffcdhiejmbdaaGreatDoor
set_option linter.unusedVariables false
set_option linter.unusedSimpArgs false
open Go Go.RowKit

/-- The rules behind the first m, and at the m-th behind the first k promotions. -/
def RsAt (b : Bs) (xs : List Lt) (m k : Nat) (rs : List Ru) : Prop := rs.length = b.rules.length ∧ ∀ i (h : i < rs.length) (h' : i < b.rules.length), rs[i] = if i < m then promR b.proms xs b.rules[i] else if i = m then promR (b.proms.take k) xs b.rules[i] else b.rules[i]
section
variable {b : Bs} {xs : List Lt} {m k : Nat} {rs : List Ru}
theorem RsAt.start (b : Bs) (xs : List Lt) : RsAt b xs 0 0 b.rules := by
  refine ⟨rfl, fun i h h' => ?_⟩
  rw [if_neg (by omega), List.take_zero, promR_none]
  split <;> rfl
theorem RsAt.next (h : RsAt b xs m b.proms.length rs) : RsAt b xs (m + 1) 0 rs := by
  refine ⟨h.1, fun i hi hi' => ?_⟩
  rw [h.2 i hi hi', List.take_length, List.take_zero, promR_none]
  by_cases h1 : i < m
  · rw [if_pos h1, if_pos (by omega)]
  · rw [if_neg h1]
    by_cases h2 : i = m
    · rw [if_pos h2, if_pos (by omega)]
    · rw [if_neg h2, if_neg (by omega)]
      split <;> rfl
theorem RsAt.done (h : RsAt b xs b.rules.length 0 rs) : rs = b.rules.map (promR b.proms xs) := by
  apply List.ext_getElem
  · rw [h.1, List.length_map]
  · intro i h1 h2
    have h3 : i < b.rules.length := by simpa using h2
    rw [h.2 i h1 h3, if_pos h3, List.getElem_map]
theorem RsAt.now (h : RsAt b xs m k rs) (hm : m < rs.length) (hm' : m < b.rules.length) : rs[m] = promR (b.proms.take k) xs b.rules[m] := by
  rw [h.2 m hm hm', if_neg (Nat.lt_irrefl m), if_pos rfl]
theorem RsAt.snoc (hk : k < b.proms.length) (r : Ru) : promR (b.proms.take (k + 1)) xs r = if (b.proms[k]).rule = r.name ∧ r.strict = false ∧ (b.proms[k]).lit ∈ xs then ⟨r.name, r.strict, (b.proms[k]).rank, r.body, r.head⟩ else promR (b.proms.take k) xs r := by
  rw [List.take_succ_eq_append_getElem hk, promR_snoc]
/-- This promotion does not apply. -/
theorem RsAt.skip (h : RsAt b xs m k rs) (hk : k < b.proms.length) (hm : m < rs.length) (hn : ¬ ((b.proms[k]).rule = (rs[m]).name ∧ (rs[m]).strict = false ∧ (b.proms[k]).lit ∈ xs)) : RsAt b xs m (k + 1) rs := by
  have hm' : m < b.rules.length := by rw [← h.1]; exact hm
  rw [h.now hm hm', promR_name, promR_strict] at hn
  refine ⟨h.1, fun i hi hi' => ?_⟩
  rw [h.2 i hi hi']
  by_cases h1 : i < m
  · rw [if_pos h1, if_pos h1]
  · rw [if_neg h1, if_neg h1]
    by_cases h2 : i = m
    · subst h2
      rw [if_pos rfl, if_pos rfl, RsAt.snoc hk, if_neg hn]
    · rw [if_neg h2, if_neg h2]
/-- This promotion applies. -/
theorem RsAt.put (h : RsAt b xs m k rs) (hk : k < b.proms.length) (hm : m < rs.length) (hn : (b.proms[k]).rule = (rs[m]).name ∧ (rs[m]).strict = false ∧ (b.proms[k]).lit ∈ xs) {y : Ru} (hy : y = ⟨(rs[m]).name, (rs[m]).strict, (b.proms[k]).rank, (rs[m]).body, (rs[m]).head⟩) : RsAt b xs m (k + 1) (rs.set m y) := by
  subst hy
  have hm' : m < b.rules.length := by rw [← h.1]; exact hm
  rw [h.now hm hm', promR_name, promR_strict] at hn
  refine ⟨by rw [List.length_set, h.1], fun i hi hi' => ?_⟩
  have hi2 : i < rs.length := by simpa using hi
  by_cases h2 : i = m
  · subst h2
    rw [List.getElem_set_self, if_neg (Nat.lt_irrefl i), if_pos rfl, RsAt.snoc hk, if_pos hn, h.now hm hm', promR_name, promR_strict, promR_body, promR_head]
  · rw [List.getElem_set_ne (fun e => h2 e.symm), h.2 i hi2 hi']
    by_cases h1 : i < m
    · rw [if_pos h1, if_pos h1]
    · rw [if_neg h1, if_neg h1, if_neg h2, if_neg h2]
end

/-- The reference's Promote under way: the copy in the box R. -/
structure Rp (w : World) (b : Bs) (xs : List Lt) (cs : Array Value) (R : Nat) (pv : Value) (a : Option Addr) (c : Nat) (qv : Value) (m k : Nat) (wr : World) (rs : List Ru) : Prop where
  box : wr.heap[R]? = some (.cells #[pv, .slice a b.rules.length c, qv] 26 (0, 0))
  src : wr.heap[w.heap.size]? = some (.cells cs 26 (0, 0))
  res : wr.heap[w.heap.size + 1]? = some (.cells #[.slice none 0 0, .slice none 0 0, .slice none 0 0] 26 (0, 0))
  lo : w.heap.size + 2 ≤ R
  own : BaseOwn wr (w.heap.size + 2) (.agg #[pv, .slice a b.rules.length c, qv]) ⟨b.prems, rs, b.proms⟩
  ats : RsAt b xs m k rs
  bel : Below w.heap.size w wr
section
variable {w wr w' : World} {b : Bs} {xs : List Lt} {cs : Array Value} {R c m k m' k' : Nat} {pv qv : Value} {a : Option Addr} {rs : List Ru}
theorem Rp.more (h : Rp w b xs cs R pv a c qv m k wr rs) (hb : Below wr.heap.size wr w') : Rp w b xs cs R pv a c qv m k w' rs :=
  ⟨blk_kept2 h.box hb, blk_kept2 h.src hb, blk_kept2 h.res hb, h.lo, h.own.grown (only_of_below hb none) (fun g e => by cases e), h.ats, h.bel.trans (Below.mono hb h.bel.size)⟩
theorem Rp.at (h : Rp w b xs cs R pv a c qv m k wr rs) (ha : RsAt b xs m' k' rs) : Rp w b xs cs R pv a c qv m' k' wr rs :=
  ⟨h.box, h.src, h.res, h.lo, h.own, ha, h.bel⟩
theorem Rp.rus (h : Rp w b xs cs R pv a c qv m k wr rs) : OwnRu wr (w.heap.size + 2) (fun k => w.heap.size + 2 ≤ k) (.slice a b.rules.length c) rs := by
  obtain ⟨_, _, _, e, -, h2, -⟩ := h.own
  injection e with e
  have e2 := congrArg (fun x : Array Value => x[1]?) e
  simp at e2
  rw [e2]
  exact h2
theorem Rp.put (h : Rp w b xs cs R pv a c qv m k wr rs) (hk : k < b.proms.length) (hm : m < rs.length) {g : Nat} (hg : a = some ⟨g, 0, none⟩) (hn : (b.proms[k]).rule = (rs[m]).name ∧ (rs[m]).strict = false ∧ (b.proms[k]).lit ∈ xs) {z : Int} (hz : (b.proms[k]).rank = z) :
    Rp w b xs cs R pv a c qv m (k + 1) (wr.setCell ⟨g, m * 6 + 2, none⟩ (.int .i64 z)) (rs.set m ⟨(rs[m]).name, (rs[m]).strict, z, (rs[m]).body, (rs[m]).head⟩) := by
  have hru := h.rus
  obtain ⟨vs, hl, ho, hbd⟩ := hru
  have hgb : (Value.slice a b.rules.length c).ownBlock = some g := by rw [hg]; rfl
  obtain ⟨cur, htag⟩ := owns_tag ho hgb
  have hg0 := (owns_blk ho g hgb).1
  have hset : ∀ k, k ≠ g → (wr.setCell ⟨g, m * 6 + 2, none⟩ (.int .i64 z)).heap[k]? = wr.heap[k]? := fun k hk => Below.heap_setCell wr ⟨g, m * 6 + 2, none⟩ _ k hk
  have hT : ∀ {j : Nat} {cs : Array Value} {t : TypeId}, wr.heap[j]? = some (.cells cs t (0, 0)) → t ≠ 72 → (wr.setCell ⟨g, m * 6 + 2, none⟩ (.int .i64 z)).heap[j]? = wr.heap[j]? := fun {j cs t} h1 h2 => hset j (tag_ne h1 htag h2)
  have hP : OwnPm wr (w.heap.size + 2) pv b.prems ∧ OwnPr wr (w.heap.size + 2) qv b.proms := by
    obtain ⟨_, _, _, e, h1, -, h3⟩ := h.own
    injection e with e
    have e0 := congrArg (fun x : Array Value => x[0]?) e
    have e2 := congrArg (fun x : Array Value => x[2]?) e
    simp at e0 e2
    rw [e0, e2]
    exact ⟨h1, h3⟩
  have hlen := h.ats.1
  refine ⟨(hT h.box (by decide)).trans h.box, (hT h.src (by decide)).trans h.src, (hT h.res (by decide)).trans h.res, h.lo, ⟨pv, _, qv, rfl, owns_kept hP.1 fun g' e => ?_, ⟨vs, by simp [hl], ?_, fun i hi hi' => ?_⟩, owns_kept hP.2 fun g' e => ?_⟩, h.ats.put hk hm hn (by rw [hz]), below_set5 h.bel (by omega)⟩
  · obtain ⟨c', h'⟩ := owns_tag hP.1 e
    exact hT h' (by decide)
  · have h2 := ho
    rw [hg] at h2 ⊢
    have hz2 : m < (rs.zip vs).length := by rw [List.length_zip]; omega
    rw [← hlen] at h2 ⊢
    have h3 := (World.ownsRow.stored h2 (m * 6 + 2) (.int .i64 z)).1
    rw [flat_put (fun x : Ru × Value => encRu x.1 x.2) 6 (fun _ => rfl) (.int .i64 z) (⟨(rs[m]).name, (rs[m]).strict, z, (rs[m]).body, (rs[m]).head⟩, vs[m]'(by omega)) (rs.zip vs) m 2 hz2 (by decide) (by rw [List.getElem_zip]; rfl), zip_set, List.set_getElem_self] at h3
    simpa using h3
  · have hi2 : i < rs.length := by simpa using hi
    have h4 := hbd i hi2 hi'
    have eb : ((rs.set m ⟨(rs[m]).name, (rs[m]).strict, z, (rs[m]).body, (rs[m]).head⟩)[i]'hi).body = rs[i].body := by
      by_cases e : i = m
      · subst e
        rw [List.getElem_set_self]
      · rw [List.getElem_set_ne (fun e' => e e'.symm)]
    show BodyIn _ _ _ ((rs.set m ⟨(rs[m]).name, (rs[m]).strict, z, (rs[m]).body, (rs[m]).head⟩)[i]'hi).body
    rw [eb]
    refine h4.kept (fun j hj hj2 => hset j (fun e => hj.2 (by rw [e]; exact hgb))) (by rw [size_setCell]; exact Nat.le_refl _) (fun j hj _ => hj)
  · obtain ⟨c', h'⟩ := owns_tag hP.2 e
    exact hT h' (by decide)
/-- All done, and the result's box written. -/
theorem Rp.fin (h : Rp w b xs cs R pv a c qv b.rules.length 0 wr rs) (hk : ∀ k, k ≠ w.heap.size + 1 → w'.heap[k]? = wr.heap[k]?) (hs : wr.heap.size ≤ w'.heap.size) : BaseAt w' (.agg #[pv, .slice a b.rules.length c, qv]) (promB b xs) := by
  obtain ⟨pv', rv', qv', e, h1, h2, h3⟩ := h.own
  rw [e]
  have hk' : ∀ k, w.heap.size + 2 ≤ k → w'.heap[k]? = wr.heap[k]? := fun k h => hk k (by omega)
  refine BaseOwn.at_ (L := w.heap.size + 2) ⟨pv', rv', qv', rfl, owns_kept h1 fun g e => hk' g (owns_blk h1 g e).1, ?_, owns_kept h3 fun g e => hk' g (owns_blk h3 g e).1⟩
  have h4 : OwnRu wr (w.heap.size + 2) (fun k => w.heap.size + 2 ≤ k) rv' (b.rules.map (promR b.proms xs)) := by rw [← h.ats.done]; exact h2
  exact h4.kept (fun g e => hk' g (h4.blk g e).1) (fun k hk2 _ => hk' k hk2) hs (fun k hk2 _ => hk2)
end
end Go.Proofs.YtiffcdhiejmbdaaGreatDoor

namespace Go.Proofs.YtiffcdhiejmbdaaGreatDoor
set_option linter.unusedVariables false
set_option linter.unusedSimpArgs false
open Go Go.RowKit

set_option maxRecDepth 100000 in
set_option maxHeartbeats 8000000 in
theorem r5Promote_any (b : Bs) (xs : List Lt) (v u : Value) (w : World) (hv : BaseAt w v b) (hu : BodyAt w u xs) (hl0 : xs.length ≤ 1000000) (hl1 : b.prems.length ≤ 1000000) (hl2 : b.rules.length ≤ 1000000 - 1) (hl3 : b.proms.length ≤ 1000000) (hlb : ∀ r ∈ b.rules, r.body.length ≤ 1000000) :
    Calls Tryz.prog 37 #[v, u] w fun e w' => ∃ v', e = .returned v' ∧ BaseAt w' v' (promB b xs) ∧ Below w.heap.size w w' := by
  obtain ⟨a1, a2, a3, c1, c2, c3, rfl, -, -, -, -, -, -, hp, hr, hq⟩ := hv.form
  obtain ⟨au, cu, rfl, -, -, -⟩ := hu.form
  have hgr := bgrow2 w (.cells #[.slice a1 b.prems.length c1, .slice a2 b.rules.length c2, .slice a3 b.proms.length c3] 26) (.cells #[.slice none 0 0, .slice none 0 0, .slice none 0 0] 26)
  have HB0 := hidIt hgr
  have HV0 := hidIt (BaseAt.below hv hgr)
  have HQ0 := hidIt hq
  have HU0 := hidIt hu
  have HLB := hidIt hlb
  have hz1 := size_alloc w (.cells #[.slice a1 b.prems.length c1, .slice a2 b.rules.length c2, .slice a3 b.proms.length c3] 26)
  have HK0 := hidIt (blk_kept2 (heap_alloc_new w (.cells #[.slice a1 b.prems.length c1, .slice a2 b.rules.length c2, .slice a3 b.proms.length c3] 26)) (bgrow _ (.cells #[.slice none 0 0, .slice none 0 0, .slice none 0 0] 26)))
  have HZ0 := hidIt (heap_alloc_new (w.alloc (.cells #[.slice a1 b.prems.length c1, .slice a2 b.rules.length c2, .slice a3 b.proms.length c3] 26)) (.cells #[.slice none 0 0, .slice none 0 0, .slice none 0 0] 26))
  rw [hz1] at HZ0
  have HS0 : Hid (((w.alloc (.cells #[.slice a1 b.prems.length c1, .slice a2 b.rules.length c2, .slice a3 b.proms.length c3] 26)).alloc (.cells #[.slice none 0 0, .slice none 0 0, .slice none 0 0] 26)).heap.size = w.heap.size + 2) := by show _ = _; rw [size_alloc, size_alloc]
  clear hv hu hgr hp hr hq hlb hz1
  obtain ⟨k0, k1, k2⟩ := bcell3 HK0.out
  have lk := lt_of_block HK0.out
  go_enter Tryz.func37, Tryz.ntmps37
  go_wp2_with fail
  refine (r5copy_any b _ _ HV0.out hl1 hl2 hl3 HLB.out).mono ?_
  rintro e w1 ⟨v', rfl, hown, hb1⟩
  rw [HS0.out] at hown hb1
  clear k0 k1 k2 lk
  obtain ⟨pv, rv, qv, rfl, g1, g2, g3⟩ := id hown
  obtain ⟨ap, cp, rfl, -, -⟩ := shape_own g1
  obtain ⟨aq, cq, rfl, -, -⟩ := shape_own g3
  obtain ⟨a, c, rfl⟩ : ∃ a c, rv = .slice a b.rules.length c := by
    obtain ⟨vs, -, ho, -⟩ := g2
    obtain ⟨a, c, e, -⟩ := shape_own ho
    exact ⟨a, c, e⟩
  have hsz1 : w.heap.size + 2 ≤ w1.heap.size := by rw [← HS0.out]; exact hb1.size
  have hgr1 := bgrow w1 (.cells #[.slice ap b.prems.length cp, .slice a b.rules.length c, .slice aq b.proms.length cq] 26)
  have HRP : Hid (Rp w b xs #[.slice a1 b.prems.length c1, .slice a2 b.rules.length c2, .slice a3 b.proms.length c3] w1.heap.size (.slice ap b.prems.length cp) a c (.slice aq b.proms.length cq) 0 0 (w1.alloc (.cells #[.slice ap b.prems.length cp, .slice a b.rules.length c, .slice aq b.proms.length cq] 26)) b.rules) :=
    ⟨heap_alloc_new _ _, blk_kept2 (blk_kept2 HK0.out (by rw [HS0.out]; exact hb1)) hgr1, blk_kept2 (blk_kept2 HZ0.out (by rw [HS0.out]; exact hb1)) hgr1, hsz1, hown.grown (only_of_below hgr1 none) (fun g e => by cases e), RsAt.start b xs, HB0.out.trans (Below.mono (Below.trans hb1 (Below.mono hgr1 hsz1)) (Nat.le_add_right _ _))⟩
  obtain ⟨R, hR⟩ : ∃ R, R = w1.heap.size := ⟨_, rfl⟩
  clear hown hb1 g1 g2 g3 HB0 HV0 HS0 HK0 HZ0 HLB hsz1 hgr1
  go_wp2_with fail
  rw [← hR] at HRP ⊢
  generalize (w1.alloc (.cells #[.slice ap b.prems.length cp, .slice a b.rules.length c, .slice aq b.proms.length cq] 26)) = w3 at *
  clear hR
  go_loopw [6] (fun i wr => ∃ (m : Nat) (rs : List Ru), m ≤ b.rules.length ∧ i = .int .i64 m ∧ Hid (Rp w b xs #[.slice a1 b.prems.length c1, .slice a2 b.rules.length c2, .slice a3 b.proms.length c3] R (.slice ap b.prems.length cp) a c (.slice aq b.proms.length cq) m 0 wr rs)) (fun i _ => b.rules.length - (intOf i).toNat)
  case atStart => exact ⟨0, _, Nat.zero_le _, rfl, HRP⟩
  case round =>
    clear HRP
    obtain ⟨m, rs0, hm', rfl, HRm⟩ := hrel
    obtain ⟨x0, x1, x2⟩ := bcell3 HRm.out.box
    have lR := lt_of_block HRm.out.box
    by_cases hm : m < b.rules.length
    · have hmI : (m : Int) < (b.rules.length : Int) := by omega
      have hm0 : (0 : Int) ≤ (m : Int) := by omega
      go_wp2_with fail
      clear x0 x1 x2 lR
      go_loopw [7] (fun i wx => ∃ (k : Nat) (rs : List Ru), k ≤ b.proms.length ∧ i = .int .i64 k ∧ Hid (Rp w b xs #[.slice a1 b.prems.length c1, .slice a2 b.rules.length c2, .slice a3 b.proms.length c3] R (.slice ap b.prems.length cp) a c (.slice aq b.proms.length cq) m k wx rs)) (fun i _ => b.proms.length - (intOf i).toNat)
      case atStart => exact ⟨0, _, Nat.zero_le _, rfl, HRm⟩
      case round =>
        clear HRm
        obtain ⟨k, rs, hk', rfl, HRk⟩ := hrel
        obtain ⟨s0, s1, s2⟩ := bcell3 HRk.out.src
        have ls := lt_of_block HRk.out.src
        by_cases hk : k < b.proms.length
        · have hkI : (k : Int) < (b.proms.length : Int) := by omega
          have hk0 : (0 : Int) ≤ (k : Int) := by omega
          obtain ⟨aa, ca, ea, -, -, hrow⟩ := RowIn.form HQ0.out
          injection ea with ea eb ec
          subst ea ec
          obtain ⟨bb, off, rfl, hbl, p0', p1', p2', p3'⟩ := hrow k hk
          have p0 := (HRk.out.bel.cell (p := ⟨bb, off + k * 4, none⟩) hbl).trans p0'
          have p1 := (HRk.out.bel.cell (p := ⟨bb, off + k * 4 + 1, none⟩) hbl).trans p1'
          have p2 := (HRk.out.bel.cell (p := ⟨bb, off + k * 4 + 2, none⟩) hbl).trans p2'
          have p3 := (HRk.out.bel.cell (p := ⟨bb, off + k * 4 + 3, none⟩) hbl).trans p3'
          have hbx := Nat.lt_of_lt_of_le hbl HRk.out.bel.size
          clear hrow p0' p1' p2' p3' hbl
          obtain ⟨q, hqe⟩ : ∃ q, b.proms[k] = q := ⟨_, rfl⟩
          rw [hqe] at p0 p1 p2 p3
          have HQ5 := hidIt hqe
          clear hqe
          obtain ⟨rl, rk, ⟨qg, qn⟩⟩ := q
          simp only at p0 p1 p2 p3
          have hmr : m < rs.length := by rw [HRk.out.ats.1]; exact hm
          have hgr2 := bgrow wr (.cells #[.string rl, .int .i64 rk, .bool qg, .string qn] 80)
          have HR2 := hidIt (HRk.out.more hgr2)
          have HP2 := hidIt (heap_alloc_new wr (.cells #[.string rl, .int .i64 rk, .bool qg, .string qn] 80))
          have HM : Hid (∀ wy, Below (wr.alloc (.cells #[.string rl, .int .i64 rk, .bool qg, .string qn] 80)).heap.size (wr.alloc (.cells #[.string rl, .int .i64 rk, .bool qg, .string qn] 80)) wy → Calls Tryz.prog 53 #[.slice au xs.length cu, .agg #[.bool qg, .string qn]] wy fun e w' => e = .returned (.bool (decide ((⟨qg, qn⟩ : Lt) ∈ xs))) ∧ Below wy.heap.size wy w') := fun wy hb =>
            rHas5_any _ xs ⟨qg, qn⟩ wy ((HU0.out.below (Below.mono HR2.out.bel (Nat.le_refl _))).below hb) hl0
          obtain ⟨g, bv, ha, -, hgl, y0, y1, y2, -, -, -, -⟩ := HR2.out.rus.cell6 m hmr
          go_wp2_with fail
          clear s0 s1 s2 ls p0 p1 p2 p3 hbx
          obtain ⟨p8, hp8⟩ : ∃ p, p = wr.heap.size := ⟨_, rfl⟩
          rw [← hp8] at HP2 ⊢
          generalize (wr.alloc (.cells #[.string rl, .int .i64 rk, .bool qg, .string qn] 80)) = w2 at *
          clear hgr2 HRk hp8
          subst ha
          obtain ⟨r, hre⟩ : ∃ r, rs[m] = r := ⟨_, rfl⟩
          rw [hre] at y0 y1 y2
          have HE5 := hidIt hre
          clear hre
          obtain ⟨nm, st, rr, ys, hh⟩ := r
          simp only at y0 y1 y2
          obtain ⟨z0, z1, z2, z3⟩ := bcell4 HP2.out
          have lp := lt_of_block HP2.out
          obtain ⟨x0, x1, x2⟩ := bcell3 HR2.out.box
          have lR := lt_of_block HR2.out.box
          have lg := hgl
          clear hgl y2
          by_cases hnm : rl = nm
          · subst hnm
            cases st
            · generalize hD : decide ((⟨qg, qn⟩ : Lt) ∈ xs) = D at *
              have HD := hidIt hD
              clear hD
              have K1 := fun y => Ext.cell x1 y
              have Y0 := fun y => Ext.cell y0 y
              have Y1 := fun y => Ext.cell y1 y
              have Z0 := fun y => Ext.cell z0 y
              have Z1 := fun y => Ext.cell z1 y
              have Z2 := fun y => Ext.cell z2 y
              have Z3 := fun y => Ext.cell z3 y
              have LR := fun y : In (Ext w2) => Nat.lt_of_lt_of_le lR (Below.size y.h)
              have LG := fun y : In (Ext w2) => Nat.lt_of_lt_of_le lg (Below.size y.h)
              have LP := fun y : In (Ext w2) => Nat.lt_of_lt_of_le lp (Below.size y.h)
              go_wp2_with fail
              haveI := Ext.nonempty w2
              refine wp_region_in (Ext w2) (by kernel_rfl) (by kernel_rfl) (Ext.start w2) ?_
              repeat (go_big_quiet_step ((go_at_call 53; refine Ext.call (HM.out _ (In.h _)))))
              refine wpQuiet_nil ?_
              rintro w5 ⟨⟨_, h5⟩, rfl⟩
              have HR5 := hidIt (HR2.out.more h5)
              have HP5 := hidIt (blk_kept2 HP2.out h5)
              clear h5 K1 Y0 Y1 Z0 Z1 Z2 Z3 LR LG LP x0 x1 x2 y0 y1 z0 z1 z2 z3 lR lg lp HP2 HR2
              cases D
              · have HN := hidIt (of_decide_eq_false HD.out)
                have HR6 := hidIt (HR5.out.at (HR5.out.ats.skip hk hmr (by rw [HQ5.out, HE5.out]; exact fun h => HN.out h.2.2)))
                go_wp2_with fail
                go_roundw
                case rel => exact ⟨k + 1, rs, by omega, by go_num, HR6⟩
                case measure => simp [intOf]; omega
              · have HN := hidIt (of_decide_eq_true HD.out)
                have HR6 := hidIt (HR5.out.put hk hmr rfl (by rw [HQ5.out, HE5.out]; exact ⟨rfl, rfl, HN.out⟩) (z := rk) (by rw [HQ5.out]))
                obtain ⟨x0, x1, x2⟩ := bcell3 HR5.out.box
                have lR := lt_of_block HR5.out.box
                obtain ⟨z0, z1, z2, z3⟩ := bcell4 HP5.out
                have lp := lt_of_block HP5.out
                obtain ⟨vs, -, ho, -⟩ := HR5.out.rus
                obtain ⟨cur, htag⟩ := owns_tag ho (g := g) rfl
                have ff := free_any htag (m * 6 + 2)
                have lg := lt_of_block htag
                obtain ⟨g', bv', e', -, -, -, -, y2, -, -, -, -⟩ := HR5.out.rus.cell6 m hmr
                injection e' with e'
                injection e' with e'
                subst e'
                clear ho htag
                go_wp2_with fail
                go_roundw
                case rel => exact ⟨k + 1, _, by omega, by go_num, HR6⟩
                case measure => simp [intOf]; omega
            · skip
              have K1 := fun y => Ext.cell x1 y
              have Y0 := fun y => Ext.cell y0 y
              have Y1 := fun y => Ext.cell y1 y
              have Z0 := fun y => Ext.cell z0 y
              have Z1 := fun y => Ext.cell z1 y
              have Z2 := fun y => Ext.cell z2 y
              have Z3 := fun y => Ext.cell z3 y
              have LR := fun y : In (Ext w2) => Nat.lt_of_lt_of_le lR (Below.size y.h)
              have LG := fun y : In (Ext w2) => Nat.lt_of_lt_of_le lg (Below.size y.h)
              have LP := fun y : In (Ext w2) => Nat.lt_of_lt_of_le lp (Below.size y.h)
              go_wp2_with fail
              haveI := Ext.nonempty w2
              refine wp_region_in (Ext w2) (by kernel_rfl) (by kernel_rfl) (Ext.start w2) ?_
              repeat (go_big_quiet_step ((go_at_call 53; refine Ext.call (HM.out _ (In.h _)))))
              refine wpQuiet_nil ?_
              rintro w5 ⟨⟨_, h5⟩, rfl⟩
              have HR5 := hidIt (HR2.out.more h5)
              have HP5 := hidIt (blk_kept2 HP2.out h5)
              clear h5 K1 Y0 Y1 Z0 Z1 Z2 Z3 LR LG LP x0 x1 x2 y0 y1 z0 z1 z2 z3 lR lg lp HP2 HR2
              have HR6 := hidIt (HR5.out.at (HR5.out.ats.skip hk hmr (by rw [HQ5.out, HE5.out]; exact fun h => Bool.noConfusion (show true = false from h.2.1))))
              go_wp2_with fail
              go_roundw
              case rel => exact ⟨k + 1, rs, by omega, by go_num, HR6⟩
              case measure => simp [intOf]; omega
          · have HN := hidIt hnm
            have hb : (rl.toList == nm.toList) = false := by
              cases h : (rl.toList == nm.toList) with
              | false => rfl
              | true => exact absurd (hasName_eq (s := nm) (r := ⟨rl, false, 0, [], ⟨false, nm⟩⟩) h) hnm
            have K1 := fun y => Ext.cell x1 y
            have Y0 := fun y => Ext.cell y0 y
            have Y1 := fun y => Ext.cell y1 y
            have Z0 := fun y => Ext.cell z0 y
            have Z1 := fun y => Ext.cell z1 y
            have Z2 := fun y => Ext.cell z2 y
            have Z3 := fun y => Ext.cell z3 y
            have LR := fun y : In (Ext w2) => Nat.lt_of_lt_of_le lR (Below.size y.h)
            have LG := fun y : In (Ext w2) => Nat.lt_of_lt_of_le lg (Below.size y.h)
            have LP := fun y : In (Ext w2) => Nat.lt_of_lt_of_le lp (Below.size y.h)
            go_wp2_with fail
            haveI := Ext.nonempty w2
            refine wp_region_in (Ext w2) (by kernel_rfl) (by kernel_rfl) (Ext.start w2) ?_
            repeat (go_big_quiet_step ((go_at_call 53; refine Ext.call (HM.out _ (In.h _)))))
            refine wpQuiet_nil ?_
            rintro w5 ⟨⟨_, h5⟩, rfl⟩
            have HR5 := hidIt (HR2.out.more h5)
            have HP5 := hidIt (blk_kept2 HP2.out h5)
            clear h5 K1 Y0 Y1 Z0 Z1 Z2 Z3 LR LG LP x0 x1 x2 y0 y1 z0 z1 z2 z3 lR lg lp HP2 HR2
            have HR6 := hidIt (HR5.out.at (HR5.out.ats.skip hk hmr (by rw [HQ5.out, HE5.out]; exact fun h => HN.out h.1)))
            go_wp2_with fail
            go_roundw
            case rel => exact ⟨k + 1, rs, by omega, by go_num, HR6⟩
            case measure => simp [intOf]; omega
        · obtain rfl : k = b.proms.length := by omega
          have hkI : ¬ (b.proms.length : Int) < (b.proms.length : Int) := by omega
          clear hk
          have HR6 := hidIt (HRk.out.at HRk.out.ats.next)
          clear HRk
          go_wp2_with fail
          go_roundw
          case rel => exact ⟨m + 1, rs, by omega, by go_num, HR6⟩
          case measure => simp [intOf]; omega
    · obtain rfl : m = b.rules.length := by omega
      have hmI : ¬ (b.rules.length : Int) < (b.rules.length : Int) := by omega
      clear hm
      obtain ⟨z0, z1, z2⟩ := bcell3 HRm.out.res
      have f0 := free_any HRm.out.res 0
      have f1 := free_any HRm.out.res 1
      have f2 := free_any HRm.out.res 2
      have lz := lt_of_block HRm.out.res
      go_wp2_with fail
      refine bodyPost_ret (v := .agg #[.slice ap b.prems.length cp, .slice a b.rules.length c, .slice aq b.proms.length cq]) (by simp [results, Tryz.results37, go_sem, z0, z1, z2, lz]) rfl ?_
      refine ⟨_, rfl, HRm.out.fin (fun k hk => ?_) (by rw [size_setCell, size_setCell, size_setCell]; exact Nat.le_refl _), below_set5 (below_set5 (below_set5 HRm.out.bel (by omega)) (by omega)) (by omega)⟩
      rw [Below.heap_setCell _ ⟨w.heap.size + 1, 2, none⟩ _ k hk, Below.heap_setCell _ ⟨w.heap.size + 1, 1, none⟩ _ k hk, Below.heap_setCell _ ⟨w.heap.size + 1, 0, none⟩ _ k hk]
end Go.Proofs.YtiffcdhiejmbdaaGreatDoor
