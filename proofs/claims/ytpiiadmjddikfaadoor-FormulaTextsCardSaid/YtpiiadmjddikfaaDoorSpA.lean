/- keep.SpoiltFormula: lists of formulas that it copies and appends to; what it leaves. -/
import Derived.Test.YtpiiadmjddikfaaDoorGrowG
import Derived.Test.YtpiiadmjddikfaaDoorRelU
import Derived.Test.YtpiiadmjddikfaaDoorSText
namespace Go.Proofs.YtpiiadmjddikfaaDoor
set_option linter.unusedVariables false
set_option linter.unusedSimpArgs false
open Go.RowKit

theorem ext_cell3 {W : World} {b o : Nat} {v : Value} (h : W.cell? ⟨b, o, none⟩ = some v) : ∀ w, Ext W w → w.cell? ⟨b, o, none⟩ = some v := fun w hw => Ext.cell h ⟨w, hw⟩

theorem set_row3 (w : World) (b k : Nat) (x y z : Value) : w.grownBy (((w.setCell ⟨b, k, none⟩ x).setCell ⟨b, k + 1, none⟩ y).setCell ⟨b, k + 2, none⟩ z) (some b) :=
  only_setCell (p := ⟨b, k + 2, none⟩) (only_setCell (p := ⟨b, k + 1, none⟩) (only_setCell (p := ⟨b, k, none⟩) (only_refl w (some b)) (.inl rfl) x) (.inl rfl) y) (.inl rfl) z

theorem OwnG.form {w : World} {B : Nat} {S : Nat → Prop} {v : Value} {ts : List Tree} (h : OwnG w B S v ts) : ∃ (a : Option Addr) (c : Nat), v = .slice a ts.length c ∧ ts.length ≤ c ∧ c ≤ maxLen ∧ FormsIn w (fun k => S k ∨ B ≤ k) a ts := by
  obtain ⟨hs, h1, ho, hf⟩ := h
  rcases ho.2 with ⟨rfl, h0⟩ | ⟨g, cap, cur, rfl, hB, hg, hnc, hcm, hcs, htake⟩
  · have : ts = [] := List.eq_nil_of_length_eq_zero h0
    subst this
    exact ⟨none, 0, rfl, Nat.le_refl _, Nat.zero_le _, FormsIn.nil none⟩
  · refine ⟨_, cap, rfl, hnc, hcm, FormsIn.of_cells hs ts h1 (.inr hB) (fun j u hj => ?_) (fun i hi hi' => (hf i hi hi').mono fun k _ hk => .inl hk)⟩
    have := World.ownsRow.cells ho (g := g) rfl j u hj
    have e : (⟨g, 0, none⟩ : Addr).add j = ⟨g, 0 + j, none⟩ := by unfold Addr.add; split <;> simp_all
    rwa [e] at this
theorem OwnG.block {w : World} {B : Nat} {S : Nat → Prop} {v : Value} {ts : List Tree} (h : OwnG w B S v ts) : ∀ g, v.ownBlock = some g → B ≤ g ∧ g < w.heap.size := by
  obtain ⟨hs, -, ho, -⟩ := h
  exact World.ownsRow.lt ho
theorem OwnG.kept {w w' : World} {B : Nat} {S : Nat → Prop} {v : Value} {ts : List Tree} {row : Option Nat} (h : OwnG w B S v ts) (hg : w.grownBy w' row) (hr : ∀ g, row = some g → v.ownBlock ≠ some g ∧ ¬ S g) : OwnG w' B S v ts := by
  obtain ⟨hs, h1, ho, hf⟩ := h
  refine ⟨hs, h1, World.ownsRow.kept ho hg ?_, fun i hi hi' => (hf i hi hi').kept fun k hk hl => hg.block k hl (fun e => (hr k e.symm).2 hk)⟩
  cases hv : v.ownBlock with
  | none => exact .inl rfl
  | some g => exact .inr (fun e => (hr g e.symm).1 hv)

/-- The list as a row: its own block, and the formulas'. -/
theorem OwnG.row {w : World} {B : Nat} {S : Nat → Prop} {v : Value} {ts : List Tree} (h : OwnG w B S v ts) : ∃ (a : Option Addr) (c : Nat), v = .slice a ts.length c ∧ ts.length ≤ c ∧ c ≤ maxLen ∧ FormsIn w (fun k => S k ∨ v.ownBlock = some k) a ts ∧ (0 < ts.length → ∃ g, a = some ⟨g, 0, none⟩ ∧ v.ownBlock = some g) := by
  obtain ⟨hs, h1, ho, hf⟩ := h
  rcases ho.2 with ⟨rfl, h0⟩ | ⟨g, cap, cur, rfl, hB, hg, hnc, hcm, hcs, htake⟩
  · have : ts = [] := List.eq_nil_of_length_eq_zero h0
    subst this
    exact ⟨none, 0, rfl, Nat.le_refl _, Nat.zero_le _, FormsIn.nil none, fun h => by simp at h⟩
  · refine ⟨_, cap, rfl, hnc, hcm, FormsIn.of_cells hs ts h1 (.inr rfl) (fun j u hj => ?_) (fun i hi hi' => (hf i hi hi').mono fun k _ hk => .inl hk), fun _ => ⟨g, rfl, rfl⟩⟩
    have := World.ownsRow.cells ho (g := g) rfl j u hj
    have e : (⟨g, 0, none⟩ : Addr).add j = ⟨g, 0 + j, none⟩ := by unfold Addr.add; split <;> simp_all
    rwa [e] at this
theorem OwnG.at {w : World} {B : Nat} {S : Nat → Prop} {v : Value} {ts : List Tree} (h : OwnG w B S v ts) (i : Nat) (hi : i < ts.length) : ∃ (g : Nat) (cur : Array Value) (ai : Option Addr) (c ci : Nat), v = .slice (some ⟨g, 0, none⟩) ts.length c ∧ B ≤ g ∧ g < w.heap.size ∧ w.heap[g]? = some (.cells cur 24 (0, 0)) ∧
    w.cell? ⟨g, i * 3, none⟩ = some (.int .i64 ts[i].op) ∧ w.cell? ⟨g, i * 3 + 1, none⟩ = some (.string ts[i].name) ∧ w.cell? ⟨g, i * 3 + 2, none⟩ = some (.slice ai ts[i].args.length ci) ∧
    (∀ k, w.frozen? ⟨g, k, none⟩ = false) ∧ FormIn w S (.agg #[.int .i64 ts[i].op, .string ts[i].name, .slice ai ts[i].args.length ci]) ts[i] := by
  obtain ⟨hs, h1, ho, hf⟩ := h
  rcases ho.2 with ⟨rfl, h0⟩ | ⟨g, cap, cur, rfl, hB, hg, hnc, hcm, hcs, htake⟩
  · omega
  · have hi' : i < hs.length := by omega
    have hz : i < (hds ts hs).length := by unfold hds; rw [List.length_zipWith]; omega
    have gg : ∀ j, j < 3 → (flatF (hds ts hs))[i * 3 + j]? = (ts[i].hd hs[i].1 hs[i].2).cells[j]? := fun j hj => by
      rw [flatF_get _ i j hz hj]
      simp [hds]
    have cc : ∀ j u, (flatF (hds ts hs))[j]? = some u → w.cell? ⟨g, j, none⟩ = some u := fun j u hj => by
      have := World.ownsRow.cells ho (g := g) rfl j u hj
      have e : (⟨g, 0, none⟩ : Addr).add j = ⟨g, j, none⟩ := by unfold Addr.add; split <;> simp_all
      rwa [e] at this
    exact ⟨g, cur, hs[i].1, cap, hs[i].2, rfl, hB, (World.ownsRow.lt ho g rfl).2, hg, cc _ _ (gg 0 (by omega)), cc _ _ (gg 1 (by omega)), cc _ _ (gg 2 (by omega)), fun k => free_any hg k, hf i hi hi'⟩
theorem cur_at {w : World} {g k : Nat} {cur : Array Value} {ty : TypeId} {x : Value} (hg : w.heap[g]? = some (.cells cur ty (0, 0))) (h : w.cell? ⟨g, k, none⟩ = some x) : cur[k]? = some x ∧ k < cur.size := by
  have h1 : cur[k]? = some x := by simpa [World.cell?, hg] using h
  exact ⟨h1, (Array.getElem?_eq_some_iff.1 h1).1⟩
theorem cell_put3 {w : World} {g k j : Nat} {cur : Array Value} {ty : TypeId} (hg : w.heap[g]? = some (.cells cur ty (0, 0))) (x y z : Value) (h : j < k ∨ k + 2 < j) :
    (((w.setCell ⟨g, k, none⟩ x).setCell ⟨g, k + 1, none⟩ y).setCell ⟨g, k + 2, none⟩ z).cell? ⟨g, j, none⟩ = w.cell? ⟨g, j, none⟩ := by
  have hk := setCell_heap_self (k := k + 2) (setCell_heap_self (k := k + 1) (setCell_heap_self (k := k) hg x) y) z
  have e0 : ¬ k = j := by omega
  have e1 : ¬ k + 1 = j := by omega
  have e2 : ¬ k + 2 = j := by omega
  simp [World.cell?, hk, hg, Array.getElem?_setIfInBounds, e0, e1, e2]
theorem cell_put3_at {w : World} {g k : Nat} {cur : Array Value} {ty : TypeId} (hg : w.heap[g]? = some (.cells cur ty (0, 0))) (x y z : Value) (h : k + 2 < cur.size) :
    (((w.setCell ⟨g, k, none⟩ x).setCell ⟨g, k + 1, none⟩ y).setCell ⟨g, k + 2, none⟩ z).cell? ⟨g, k, none⟩ = some x ∧
    (((w.setCell ⟨g, k, none⟩ x).setCell ⟨g, k + 1, none⟩ y).setCell ⟨g, k + 2, none⟩ z).cell? ⟨g, k + 1, none⟩ = some y ∧
    (((w.setCell ⟨g, k, none⟩ x).setCell ⟨g, k + 1, none⟩ y).setCell ⟨g, k + 2, none⟩ z).cell? ⟨g, k + 2, none⟩ = some z := by
  have hk := setCell_heap_self (k := k + 2) (setCell_heap_self (k := k + 1) (setCell_heap_self (k := k) hg x) y) z
  have h0 : k < cur.size := by omega
  have h1 : k + 1 < cur.size := by omega
  refine ⟨?_, ?_, ?_⟩ <;> simp [World.cell?, hk, Array.getElem?_setIfInBounds, h, h0, h1]

/-- One formula of an owned row is written anew. -/
theorem OwnG.put {w : World} {B : Nat} {S S' : Nat → Prop} {g n c : Nat} {ts : List Tree} (h : OwnG w B S (.slice (some ⟨g, 0, none⟩) n c) ts) (hSS : ∀ i, S i → S' i) (hSg : ¬ S' g) (m : Nat) (hm : m < ts.length) {o : Int} {s : ByteArray} {a : Option Addr} {n' c' : Nat} {T : Tree}
    (hT : FormIn w S' (.agg #[.int .i64 o, .string s, .slice a n' c']) T) :
    FormsIn (((w.setCell ⟨g, m * 3, none⟩ (.int .i64 o)).setCell ⟨g, m * 3 + 1, none⟩ (.string s)).setCell ⟨g, m * 3 + 2, none⟩ (.slice a n' c')) (fun i => S' i ∨ i = g) (some ⟨g, 0, none⟩) (ts.set m T) := by
  have hrow := set_row3 w g (m * 3) (.int .i64 o) (.string s) (.slice a n' c')
  obtain ⟨rfl, rfl, rfl⟩ := hT.shape
  refine ⟨g, 0, fun _ => ⟨rfl, .inr rfl⟩, fun i hi => ?_⟩
  simp only [List.length_set] at hi
  rw [Nat.zero_add]
  obtain ⟨g', cur, ai, cx, ci, ea, -, -, hcur, q0, q1, q2, -, hfi⟩ := h.at i hi
  injection ea with ea
  injection ea with ea
  injection ea with ea
  subst ea
  have keep : ∀ {v : Value} {t : Tree}, FormIn w S' v t → FormIn (((w.setCell ⟨g, m * 3, none⟩ (.int .i64 T.op)).setCell ⟨g, m * 3 + 1, none⟩ (.string T.name)).setCell ⟨g, m * 3 + 2, none⟩ (.slice a T.args.length c')) (fun i => S' i ∨ i = g) v t := fun hf =>
    (hf.kept fun k hk hl => hrow.block k hl (fun e => hSg (by injection e with e; subst e; exact hk))).mono fun k _ hk => .inl hk
  by_cases e : m = i
  · subst e
    obtain ⟨-, hlt⟩ := cur_at hcur q2
    obtain ⟨c0, c1, c2⟩ := cell_put3_at hcur (.int .i64 T.op) (.string T.name) (.slice a T.args.length c') hlt
    simp only [List.getElem_set_self]
    exact ⟨a, c', c0, c1, c2, keep hT⟩
  · simp only [List.getElem_set_ne e]
    refine ⟨ai, ci, ?_, ?_, ?_, keep (hfi.mono fun k _ hk => hSS k hk)⟩
    · rw [cell_put3 hcur _ _ _ (by omega)]; exact q0
    · rw [cell_put3 hcur _ _ _ (by omega)]; exact q1
    · rw [cell_put3 hcur _ _ _ (by omega)]; exact q2
theorem OwnG.mono {w : World} {B : Nat} {S S' : Nat → Prop} {v : Value} {ts : List Tree} (h : OwnG w B S v ts) (hS : ∀ i, S i → S' i) : OwnG w B S' v ts := by
  obtain ⟨hs, h1, ho, hf⟩ := h
  exact ⟨hs, h1, ho, fun i hi hi' => (hf i hi hi').mono fun k _ hk => hS k hk⟩
theorem FormsIn.tail {w : World} {S : Nat → Prop} {g off : Nat} {t : Tree} {ts : List Tree} (h : FormsIn w S (some ⟨g, off, none⟩) (t :: ts)) : FormsIn w S (some ⟨g, off + 3, none⟩) ts := by
  obtain ⟨b', off', ha, hc⟩ := h
  obtain ⟨e, hS⟩ := ha (by simp)
  obtain ⟨rfl, rfl⟩ : g = b' ∧ off = off' := by
    injection e with e1
    injection e1 with e2 e3
    exact ⟨e2, e3⟩
  refine ⟨g, off + 3, fun _ => ⟨rfl, hS⟩, fun i hi => ?_⟩
  obtain ⟨a', c', h0, h1, h2, h3⟩ := hc (i + 1) (by simp; omega)
  simp only [List.getElem_cons_succ] at h0 h1 h2 h3
  have e : off + 3 + i * 3 = off + (i + 1) * 3 := by omega
  rw [e]
  exact ⟨a', c', h0, h1, h2, h3⟩

/-- append of one formula to a list that the call owns. -/
theorem run_append_formG {w : World} (ty : TypeId) (B : Nat) (S : Nat → Prop) (v : Value) (ts : List Tree) (hown : OwnG w B S v ts) (hS : ∀ i, S i → v.ownBlock ≠ some i)
    (m c1 : Nat) {op : Int} {nm : ByteArray} {ad : Option Addr} {n c : Nat} {tz : TypeId} (hm : w.heap[m]? = some (.cells #[.int .i64 op, .string nm, .slice ad n c] tz (0, 0))) (t : Tree)
    (hf : FormIn w S (.agg #[.int .i64 op, .string nm, .slice ad n c]) t) (hlen : ts.length ≤ 1000000) (hB : B ≤ w.heap.size) :
    ∃ a' c' w', (Builtin.append_ #[22, 22] ty #[v, .slice (some ⟨m, 0, none⟩) 1 c1]).run Tryd.prog w = .ok (.slice a' (ts.length + 1) c') w' ∧ OwnG w' B S (.slice a' (ts.length + 1) c') (ts ++ [t]) ∧ w.grownBy w' v.ownBlock ∧ ((Value.slice a' (ts.length + 1) c').ownBlock = v.ownBlock ∨ (Value.slice a' (ts.length + 1) c').ownBlock = some w.heap.size) := by
  obtain ⟨i0, hi, hz0, hz1, hz2⟩ := info_parts infoF
  obtain ⟨rfl, rfl, rfl⟩ := hf.shape
  obtain ⟨hs', h1, hrow, hfs⟩ := hown
  have hnews : ∀ j u, ((t.hd ad c).cells)[j]? = some u → w.cell? ((⟨m, 0, none⟩ : Addr).add j) = some u := by
    obtain ⟨p0, p1, p2⟩ := cell_of3 hm
    intro j u hj
    have e : (⟨m, 0, none⟩ : Addr).add j = ⟨m, j, none⟩ := by unfold Addr.add; split <;> simp_all
    rw [e]
    match j with
    | 0 => simp only [Hd.cells, Tree.hd, List.getElem?_cons_zero, Option.some.injEq] at hj; rw [← hj]; exact p0
    | 1 => simp only [Hd.cells, Tree.hd, List.getElem?_cons_zero, List.getElem?_cons_succ, Option.some.injEq] at hj; rw [← hj]; exact p1
    | 2 => simp only [Hd.cells, Tree.hd, List.getElem?_cons_zero, List.getElem?_cons_succ, Option.some.injEq] at hj; rw [← hj]; exact p2
    | j + 3 => simp [Hd.cells] at hj
  have hone : ∀ u ∈ (t.hd ad c).cells, u.oneCell' = true := fun u hu => flatF_one [t.hd ad c] u (by simpa [flatF] using hu)
  have hl : ((t.hd ad c).cells).length = 1 * i0.size := by rw [hz1]; rfl
  rw [← hz1] at hrow
  obtain ⟨v', w', hr, h2, h3, h4⟩ := run_append_own (P := Tryd.prog) w B 22 ty 24 i0 _ i0.size 48 Tryd.underlying22 hi hz0 rfl hz2 (by rw [hz1]; rfl) (by rw [hz1]; decide) v ts.length _ hrow ⟨m, 0, none⟩ 1 c1 _ hl hnews hone (by unfold maxLen; omega) (by omega) hB
  have hbl := append_block (P := Tryd.prog) (w := w) B 22 ty 24 i0 _ Tryd.underlying22 hi hz0 v ts.length _ hrow ⟨m, 0, none⟩ 1 c1 _ hl hnews hone (by omega) (by omega) (by rw [hz2]; omega) hr
  have hwp : OwnG w' B S v' (ts ++ [t]) := by
    refine ⟨hs' ++ [(ad, c)], by simp [h1], ?_, fun i hi1 hi2 => ?_⟩
    · rw [zip_snoc ts hs' t (ad, c) h1, flatF_append, List.length_append]
      rw [hz1] at h2
      have e : flatF [t.hd ad c] = (t.hd ad c).cells := by simp [flatF]
      rw [e]
      exact h2
    · have hgo : ∀ {u : Value} {y : Tree}, FormIn w S u y → FormIn w' S u y := fun hy => hy.kept (fun k hk hl => h3.block k hl (fun e => hS k hk e.symm))
      by_cases hi3 : i < ts.length
      · have := hgo (hfs i hi3 (by omega))
        simp only [List.getElem_append_left hi3, List.getElem_append_left (show i < hs'.length by omega)]
        exact this
      · have hi4 : i = ts.length := by simp at hi1; omega
        subst hi4
        have := hgo hf
        simp only [List.getElem_append_right (Nat.le_refl _), List.getElem_append_right (show hs'.length ≤ ts.length by omega), h1, Nat.sub_self, List.getElem_cons_zero]
        exact this
  obtain ⟨a', c', rfl⟩ := hwp.val
  have e : (ts ++ [t]).length = ts.length + 1 := by simp
  rw [e] at hr hwp hbl
  exact ⟨a', c', w', hr, hwp, h3, hbl⟩

theorem step_append_formG {w : World} {ops : Array Oper} {o : Oper} {a : Act} {K : Act → World → Prop} {Q : Exit → Act → World → Prop} {E : Prop} (hgd : o.guard = none) (s x : Operand)
    (ho : o.op = .call { callee := .builtin .append, args := #[s, x], argTypes := #[22, 22] }) (B : Nat) (S : Nat → Prop) (v : Value) (ts : List Tree) (hs : a.eval s = v) (hown : OwnG w B S v ts) (hS : ∀ i, S i → v.ownBlock ≠ some i)
    (m c1 : Nat) (hx : a.eval x = .slice (some ⟨m, 0, none⟩) 1 c1) {op : Int} {nm : ByteArray} {ad : Option Addr} {n c : Nat} {tz : TypeId} (hm : w.heap[m]? = some (.cells #[.int .i64 op, .string nm, .slice ad n c] tz (0, 0))) (t : Tree)
    (hf : FormIn w S (.agg #[.int .i64 op, .string nm, .slice ad n c]) t) (hlen : ts.length ≤ 1000000) (hB : B ≤ w.heap.size)
    (h : ∀ a' c' w', OwnG w' B S (.slice a' (ts.length + 1) c') (ts ++ [t]) → w.grownBy w' v.ownBlock → ((Value.slice a' (ts.length + 1) c').ownBlock = v.ownBlock ∨ (Value.slice a' (ts.length + 1) c').ownBlock = some w.heap.size) → K (a.put o.dst (.slice a' (ts.length + 1) c')) w') :
    if Region.wanted o (yielded ops a.tmps) = true then Oper.wp Tryd.prog o a w K Q else E := by
  have hw : Region.wanted o (yielded ops a.tmps) = true := by simp [Region.wanted, hgd]
  rw [if_pos hw]
  obtain ⟨a', c', w', hr, h1, h2, h3⟩ := run_append_formG (w := w) o.type B S v ts hown hS m c1 hm t hf hlen hB
  unfold Oper.wp execOp
  simp only [ho, resolve, invoke, builtin, Sem.run_bind, Sem.run_pure, Result.andThen_ok, List.map_toArray, List.map_cons, List.map_nil, hs, hx, hr]
  exact h a' c' w' h1 h2 h3

/-- The copy of a list that is not empty lies in a block that did not exist before. -/
theorem run_append_formsO {w : World} (ty : TypeId) (B nb : Nat) (hnb : B ≤ nb) (hB : B ≤ w.heap.size) (hblk : w.heap[nb]? = some (.cells #[] 24 (0, 0))) {S : Nat → Prop} {a : Option Addr} {cap : Nat} {ts : List Tree} (hf : FormsIn w S a ts) (h0 : 0 < ts.length) (hlen : ts.length ≤ 1000000) :
    ∃ v' w', (Builtin.append_ #[22, 22] ty #[.slice (some ⟨nb, 0, none⟩) 0 0, .slice a ts.length cap]).run Tryd.prog w = .ok v' w' ∧ OwnG w' B S v' ts ∧ Below w.heap.size w w' ∧ Own.newV v' w w' := by
  obtain ⟨v', w', hr, h1, h2⟩ := run_append_forms ty B nb hnb hB hblk (cap := cap) hf h0 hlen
  refine ⟨v', w', hr, h1, h2, ?_⟩
  obtain ⟨i0, hi, hz0, hz1, hz2⟩ := info_parts infoF
  obtain ⟨b, off, hs, rfl, h3, hcells, hform⟩ := hf.hs h0
  have hadd : ∀ j, (⟨b, off, none⟩ : Addr).add j = ⟨b, off + j, none⟩ := fun j => by unfold Addr.add; split <;> simp_all
  have hl : (flatF (hds ts hs)).length = ts.length * i0.size := by
    rw [flatF_len, hz1]
    simp [hds, h3]
  have hx := run_append_grow (P := Tryd.prog) w 22 ty 24 i0 _ Tryd.underlying22 hi hz0 ⟨nb, 0, none⟩ 0 0 [] (by simp) (by intro j v h; simp at h) ⟨b, off, none⟩ ts.length cap _ hl (fun j u hj => by rw [hadd]; exact hcells j u hj) (by omega) (by omega) (growslice_fits (by omega) (by rw [hz2]; omega))
  rw [hx] at hr
  injection hr with e1 e2
  subst e1 e2
  intro g hg
  simp only [Own.vblk, Option.some.injEq] at hg
  subst hg
  exact ⟨Nat.le_refl _, by simp⟩

/-- An empty list in a block of its own. -/
def isNil (L : Nat) : Value → World → Prop := fun v w => ∃ nb : Nat, v = .slice (some ⟨nb, 0, none⟩) 0 0 ∧ L ≤ nb ∧ w.heap[nb]? = some (.cells #[] 24 (0, 0))
theorem isNil_up (L : Nat) : GoesUp (isNil L) := fun _ _ _ hg ⟨nb, h1, h2, h3⟩ => ⟨nb, h1, h2, blk_kept h3 hg⟩
/-- A copy of a list. -/
def isCopy (L : Nat) (S : Nat → Prop) (ts : List Tree) : Value → World → Prop := fun v w => OwnG w L S v ts ∧ (ts.length = 0 → isNil L v w)
theorem isCopy_up (L : Nat) (S : Nat → Prop) (ts : List Tree) : GoesUp (isCopy L S ts) := fun _ _ _ hg ⟨h1, h2⟩ => ⟨h1.go hg, fun h => isNil_up L _ _ _ hg (h2 h)⟩

theorem rel_copy {W wx : World} {o : Oper} {a : Act} (s x : Operand) (ho : o.op = .call { callee := .builtin .append, args := #[s, x], argTypes := #[22, 22] }) (hC : Ext W wx) {L : Nat} (hL : L ≤ W.heap.size) {S : Nat → Prop} {ts : List Tree} {nb : Nat} (hs : a.eval s = .slice (some ⟨nb, 0, none⟩) 0 0)
    (hn : isNil L (.slice (some ⟨nb, 0, none⟩) 0 0) wx) {ad : Option Addr} {cap : Nat} (hx : a.eval x = .slice ad ts.length cap) (hf : FormsIn wx S ad ts) (hlen : ts.length ≤ 1000000) :
    Own.relUpon Tryd.prog (Ext W) Grows ⟨isCopy L S ts, decide (0 < ts.length)⟩ wx ((execOp a.eval o).run Tryd.prog wx) := by
  obtain ⟨nb', e, hnb, hblk⟩ := hn
  injection e with e
  injection e with e
  injection e with e
  subst e
  have hLw : L ≤ wx.heap.size := Nat.le_trans hL (Below.size hC)
  by_cases h0 : 0 < ts.length
  · obtain ⟨v', w', hr, h1, h2, h3⟩ := run_append_formsO (w := wx) o.type L nb hnb hLw hblk (cap := cap) hf h0 hlen
    unfold execOp
    simp only [ho, resolve, invoke, builtin, Sem.run_bind, Sem.run_pure, Result.andThen_ok, List.map_toArray, List.map_cons, List.map_nil, hs, hx, hr]
    exact ⟨hC.grown h2, h2, ⟨h1, fun h => by omega⟩, fun _ => h3⟩
  · obtain rfl : ts = [] := List.eq_nil_of_length_eq_zero (by omega)
    have hr := run_append_nothing (w := wx) o.type nb ad cap
    unfold execOp
    simp only [List.length_nil] at hx
    simp only [ho, resolve, invoke, builtin, Sem.run_bind, Sem.run_pure, Result.andThen_ok, List.map_toArray, List.map_cons, List.map_nil, hs, hx, hr]
    refine ⟨hC, Below.refl _ _, ⟨⟨[], rfl, ⟨by simp [hds, flatF], .inr ⟨nb, 0, #[], rfl, hnb, hblk, Nat.le_refl _, Nat.zero_le _, by simp, by simp [hds, flatF]⟩⟩, fun i h => by simp at h⟩, fun _ => ⟨nb, rfl, hnb, hblk⟩⟩, fun h => ?_⟩
    simp at h
end Go.Proofs.YtpiiadmjddikfaaDoor
