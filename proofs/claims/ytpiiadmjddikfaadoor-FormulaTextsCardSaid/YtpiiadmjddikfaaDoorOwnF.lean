/- A list of formulas that a call owns, and append to it. -/
import Derived.Test.YtpiiadmjddikfaaDoorForms
import Derived.OwnWalk
namespace Go.Proofs.YtpiiadmjddikfaaDoor
set_option linter.unusedVariables false
set_option linter.unusedSimpArgs false
open Go.RowKit

theorem slice_inj {x y : Option Addr} {n m c d : Nat} (h : Value.slice x n c = .slice y m d) : x = y := by injection h

/-- The block of what append hands back: the old one, or a new one. -/
theorem append_block {P : Program} {w : World} (base : Nat) (t ty e : TypeId) (i : TypeInfo) (z : Value) (ht : P.underlying t = some (.slice e)) (hi : P.info? e = some i) (hz : i.zero = some z)
    (v : Value) (n : Nat) (xs : List Value) (hown : w.ownsRow base e i.size v n xs) (a : Addr) (m c : Nat) (news : List Value) (hl : news.length = m * i.size) (hnews : ∀ j u, news[j]? = some u → w.cell? (a.add j) = some u) (h1 : ∀ u ∈ news, u.oneCell' = true)
    (hm : 0 < m) (hsmall : n + m ≤ 1000000000) (hbytes : (n + m) * i.bytes ≤ 140737488355328) {v' : Value} {w' : World} (hr : (Builtin.append_ #[t, t] ty #[v, .slice (some a) m c]).run P w = .ok v' w') :
    v'.ownBlock = v.ownBlock ∨ v'.ownBlock = some w.heap.size := by
  rcases hown.2 with ⟨rfl, rfl⟩ | ⟨g, cap, cur, rfl, -, hg, hnc, -, hcs, -⟩
  · have hx := run_append_nil (P := P) w t ty e i z ht hi hz a m c news hl hnews hm (by omega) (by have := hbytes; simp only [Nat.zero_add] at this; omega)
    rw [hx] at hr
    injection hr with hr
    rw [← hr]
    exact .inr rfl
  · by_cases hroom : n + m ≤ cap
    · have hx := run_append_room (P := P) w t ty e i ht hi g n cap cur hg a m c news hl hnews h1 hroom (by rw [hl, hcs, ← Nat.add_mul]; exact Nat.mul_le_mul_right _ hroom)
      rw [hx] at hr
      injection hr with hr
      rw [← hr]
      exact .inl rfl
    · have hx := run_append_grow (P := P) w t ty e i z ht hi hz ⟨g, 0, none⟩ n cap xs hown.1 (hown.cells (g := g) rfl) a m c news hl hnews (by omega) (by omega) (growslice_fits (by omega) hbytes)
      rw [hx] at hr
      injection hr with hr
      rw [← hr]
      exact .inr rfl

theorem infoF : (Tryd.prog.info? 24).map (fun i => (i.zero, i.size, i.bytes)) = some (some (.agg #[.int .i64 0, .string ⟨#[]⟩, .slice none 0 0]), 3, 48) := by kernel_rfl

abbrev hds (ts : List Tree) (hs : List (Option Addr × Nat)) : List Hd := List.zipWith (fun t x => t.hd x.1 x.2) ts hs

/-- The value is a list of formulas that the call owns, from block B on; none of the formulas lies in the list's own block. -/
def OwnF (w : World) (B : Nat) (v : Value) (ts : List Tree) : Prop :=
  ∃ hs : List (Option Addr × Nat), hs.length = ts.length ∧ w.ownsRow B 24 3 v ts.length (flatF (hds ts hs)) ∧
    ∀ i (h : i < ts.length) (h' : i < hs.length), FormIn w (fun k => B ≤ k ∧ v.ownBlock ≠ some k) (ts[i].hd hs[i].1 hs[i].2).val ts[i]

section
variable {w w' : World} {B : Nat} {v : Value} {ts : List Tree}
theorem OwnF.block (h : OwnF w B v ts) : ∀ g, v.ownBlock = some g → B ≤ g ∧ g < w.heap.size := by
  obtain ⟨hs, -, ho, -⟩ := h
  exact World.ownsRow.lt ho
theorem OwnF.nil (w : World) (B : Nat) : OwnF w B (.slice none 0 0) [] := ⟨[], rfl, World.ownsRow_nil w B _ _, fun i h => by simp at h⟩
theorem OwnF.kept {row : Option Nat} (h : OwnF w B v ts) (hg : w.grownBy w' row) (hr : ∀ g, row = some g → g < B) : OwnF w' B v ts := by
  obtain ⟨hs, h1, ho, hf⟩ := h
  refine ⟨hs, h1, World.ownsRow.kept ho hg ?_, fun i hi hi' => (hf i hi hi').kept fun k hk hl => hg.block k hl (fun e => by have := hr k e.symm; omega)⟩
  cases hv : v.ownBlock with
  | none => exact .inl rfl
  | some g =>
    refine .inr (fun e => ?_)
    have h2 := (World.ownsRow.lt ho g hv).1
    have h3 := hr g e.symm
    omega
theorem OwnF.go (h : OwnF w B v ts) (hb : Below w.heap.size w w') : OwnF w' B v ts := h.kept (only_of_below hb none) (fun g e => by cases e)
theorem OwnF.alloc (h : OwnF w B v ts) (o : Obj) : OwnF (w.alloc o) B v ts := h.go ((Below.refl _ _).alloc (Nat.le_refl _) o)

theorem OwnF.form (h : OwnF w B v ts) : ∃ (a : Option Addr) (c : Nat), v = .slice a ts.length c ∧ ts.length ≤ c ∧ c ≤ maxLen ∧ FormsIn w (fun k => B ≤ k) a ts := by
  obtain ⟨hs, h1, ho, hf⟩ := h
  rcases ho.2 with ⟨rfl, h0⟩ | ⟨g, cap, cur, rfl, hB, hg, hnc, hcm, hcs, htake⟩
  · have : ts = [] := List.eq_nil_of_length_eq_zero h0
    subst this
    exact ⟨none, 0, rfl, Nat.le_refl _, Nat.zero_le _, FormsIn.nil none⟩
  · refine ⟨_, cap, rfl, hnc, hcm, FormsIn.of_cells hs ts h1 hB (fun j u hj => ?_) (fun i hi hi' => (hf i hi hi').mono fun k _ hk => hk.1)⟩
    have := World.ownsRow.cells ho (g := g) rfl j u hj
    have e : (⟨g, 0, none⟩ : Addr).add j = ⟨g, 0 + j, none⟩ := by unfold Addr.add; split <;> simp_all
    rwa [e] at this
end

theorem zip_snoc (ts : List Tree) (hs : List (Option Addr × Nat)) (t : Tree) (x : Option Addr × Nat) (h : hs.length = ts.length) : hds (ts ++ [t]) (hs ++ [x]) = hds ts hs ++ [t.hd x.1 x.2] := by
  unfold hds
  rw [List.zipWith_append (by omega)]
  rfl

/-- append of one formula, which lies in a row of its own, to a list that the call owns. -/
theorem wpList_append_form {w : World} {ops : Array Oper} {rest : List Oper} {o : Oper} {a : Act} {Q : Exit → Act → World → Prop} (hgd : o.guard = none) (s x : Operand)
    (ho : o.op = .call { callee := .builtin .append, args := #[s, x], argTypes := #[22, 22] }) (B : Nat) (v : Value) (ts : List Tree) (hs : a.eval s = v) (hown : OwnF w B v ts)
    (m c1 : Nat) (hx : a.eval x = .slice (some ⟨m, 0, none⟩) 1 c1) {op : Int} {nm : ByteArray} {ad : Option Addr} {n c : Nat} {ty : TypeId} (hm : w.heap[m]? = some (.cells #[.int .i64 op, .string nm, .slice ad n c] ty (0, 0))) (t : Tree)
    (hf : FormIn w (fun k => B ≤ k ∧ v.ownBlock ≠ some k) (.agg #[.int .i64 op, .string nm, .slice ad n c]) t) (hlen : ts.length ≤ 1000000) (hB : B ≤ w.heap.size)
    (h : ∀ v' w', OwnF w' B v' (ts ++ [t]) → w.grownBy w' v.ownBlock → (v'.ownBlock = v.ownBlock ∨ v'.ownBlock = some w.heap.size) → wpList Tryd.prog ops Q rest (a.put o.dst v') w') : wpList Tryd.prog ops Q (o :: rest) a w := by
  obtain ⟨i0, hi, hz0, hz1, hz2⟩ := info_parts infoF
  obtain ⟨rfl, rfl, rfl⟩ := hf.shape
  obtain ⟨hs', h1, hrow, hfs⟩ := hown
  have hnews : ∀ j u, ((t.hd ad c).cells)[j]? = some u → w.cell? ((⟨m, 0, none⟩ : Addr).add j) = some u := by
    obtain ⟨p0, p1, p2⟩ := cell_of3 hm
    intro j u hj
    have e : (⟨m, 0, none⟩ : Addr).add j = ⟨m, j, none⟩ := by unfold Addr.add; split <;> simp_all
    rw [e]
    match j with
    | 0 => simp only [Hd.cells, Tree.hd, List.getElem?_cons_zero, Option.some.injEq] at hj; rw [← hj]; exact p0
    | 1 => simp only [Hd.cells, Tree.hd, List.getElem?_cons_zero, List.getElem?_cons_succ, Option.some.injEq] at hj; rw [← hj]; exact p1
    | 2 => simp only [Hd.cells, Tree.hd, List.getElem?_cons_zero, List.getElem?_cons_succ, Option.some.injEq] at hj; rw [← hj]; exact p2
    | j + 3 => simp [Hd.cells] at hj
  have hone : ∀ u ∈ (t.hd ad c).cells, u.oneCell' = true := fun u hu => flatF_one [t.hd ad c] u (by simpa [flatF] using hu)
  have hl : ((t.hd ad c).cells).length = 1 * i0.size := by rw [hz1]; rfl
  refine wpList_plain hgd fun K hK => ?_
  rw [← hz1] at hrow
  obtain ⟨v', w', hr, h2, h3, h4⟩ := run_append_own (P := Tryd.prog) w B 22 o.type 24 i0 _ i0.size 48 Tryd.underlying22 hi hz0 rfl hz2 (by rw [hz1]; rfl) (by rw [hz1]; decide) v ts.length _ hrow ⟨m, 0, none⟩ 1 c1 _ hl hnews hone (by unfold maxLen; omega) (by omega) hB
  have hbl := append_block (P := Tryd.prog) (w := w) B 22 o.type 24 i0 _ Tryd.underlying22 hi hz0 v ts.length _ hrow ⟨m, 0, none⟩ 1 c1 _ hl hnews hone (by omega) (by omega) (by rw [hz2]; omega) hr
  have hwp : OwnF w' B v' (ts ++ [t]) := by
    refine ⟨hs' ++ [(ad, c)], by simp [h1], ?_, fun i hi1 hi2 => ?_⟩
    · rw [zip_snoc ts hs' t (ad, c) h1, flatF_append, List.length_append]
      rw [hz1] at h2
      have e : flatF [t.hd ad c] = (t.hd ad c).cells := by simp [flatF]
      rw [e]
      exact h2
    · have hgo : ∀ {u : Value} {y : Tree}, FormIn w (fun k => B ≤ k ∧ v.ownBlock ≠ some k) u y → FormIn w' (fun k => B ≤ k ∧ v'.ownBlock ≠ some k) u y := fun hy =>
        (hy.mono (S' := fun k => (B ≤ k ∧ v.ownBlock ≠ some k) ∧ v'.ownBlock ≠ some k) (fun k hk hS => ⟨hS, fun e => by
          rcases hbl with hb | hb
          · exact hS.2 (by rw [← hb, e])
          · rw [hb] at e; injection e with e; omega⟩)).kept (fun k hk hl => h3.block k hl (fun e => hk.1.2 e.symm)) |>.mono fun k _ hk => ⟨hk.1.1, hk.2⟩
      by_cases hi3 : i < ts.length
      · have := hgo (hfs i hi3 (by omega))
        simp only [List.getElem_append_left hi3, List.getElem_append_left (show i < hs'.length by omega)]
        exact this
      · have hi4 : i = ts.length := by simp at hi1; omega
        subst hi4
        have := hgo hf
        simp only [List.getElem_append_right (Nat.le_refl _), List.getElem_append_right (show hs'.length ≤ ts.length by omega), h1, Nat.sub_self, List.getElem_cons_zero]
        exact this
  unfold Oper.wp execOp
  simp only [ho, resolve, invoke, builtin, Sem.run_bind, Sem.run_pure, Result.andThen_ok, List.map_toArray, List.map_cons, List.map_nil, hs, hx, hr]
  exact hK _ _ (h v' w' hwp h3 hbl)

/-- append of three cells, whatever they are: some slice. -/
theorem wpList_append_junk {w : World} {ops : Array Oper} {rest : List Oper} {o : Oper} {a : Act} {Q : Exit → Act → World → Prop} (hgd : o.guard = none) (s x : Operand)
    (ho : o.op = .call { callee := .builtin .append, args := #[s, x], argTypes := #[22, 22] }) (B : Nat) (v : Value) (ts : List Tree) (hs : a.eval s = v) (hown : OwnF w B v ts)
    (m c1 : Nat) (hx : a.eval x = .slice (some ⟨m, 0, none⟩) 1 c1) {op : Int} {nm : ByteArray} {ad : Option Addr} {n c : Nat} {ty : TypeId} (hm : w.heap[m]? = some (.cells #[.int .i64 op, .string nm, .slice ad n c] ty (0, 0)))
    (hlen : ts.length ≤ 1000000) (hB : B ≤ w.heap.size)
    (h : ∀ (a' : Option Addr) (n' c' : Nat) (w' : World), w.grownBy w' v.ownBlock → wpList Tryd.prog ops Q rest (a.put o.dst (.slice a' n' c')) w') : wpList Tryd.prog ops Q (o :: rest) a w := by
  obtain ⟨i0, hi, hz0, hz1, hz2⟩ := info_parts infoF
  obtain ⟨hs', h1, hrow, hfs⟩ := hown
  have hnews : ∀ j u, (([.int .i64 op, .string nm, .slice ad n c] : List Value))[j]? = some u → w.cell? ((⟨m, 0, none⟩ : Addr).add j) = some u := by
    obtain ⟨p0, p1, p2⟩ := cell_of3 hm
    intro j u hj
    have e : (⟨m, 0, none⟩ : Addr).add j = ⟨m, j, none⟩ := by unfold Addr.add; split <;> simp_all
    rw [e]
    match j with
    | 0 => simp only [List.getElem?_cons_zero, Option.some.injEq] at hj; rw [← hj]; exact p0
    | 1 => simp only [List.getElem?_cons_zero, List.getElem?_cons_succ, Option.some.injEq] at hj; rw [← hj]; exact p1
    | 2 => simp only [List.getElem?_cons_zero, List.getElem?_cons_succ, Option.some.injEq] at hj; rw [← hj]; exact p2
    | j + 3 => simp at hj
  refine wpList_append_own w hgd s x 22 ho B 24 i0 _ 3 48 Tryd.underlying22 hi hz0 hz1 hz2 rfl (by decide) v ts.length _ hs hrow ⟨m, 0, none⟩ 1 c1 [.int .i64 op, .string nm, .slice ad n c] hx rfl hnews (fun u hu => ?_) (by unfold maxLen; omega) (by omega) hB (fun v' w' h2 h3 _ => ?_)
  · simp only [List.mem_cons, List.not_mem_nil, or_false] at hu
    rcases hu with rfl | rfl | rfl <;> rfl
  · rcases h2.2 with ⟨rfl, h0⟩ | ⟨g, cap, cur, rfl, -⟩
    · exact h none 0 0 w' h3
    · exact h _ _ _ w' h3

theorem OwnF.one {w : World} {B nb : Nat} {op : Int} {nm : ByteArray} {a : Option Addr} {n c : Nat} {t : Tree} (hk : w.heap[nb]? = some (.cells #[.int .i64 op, .string nm, .slice a n c] 24 (0, 0))) (hB : B ≤ nb)
    (hf : FormIn w (fun k => B ≤ k ∧ k ≠ nb) (.agg #[.int .i64 op, .string nm, .slice a n c]) t) : OwnF w B (.slice (some ⟨nb, 0, none⟩) 1 1) [t] := by
  obtain ⟨rfl, rfl, rfl⟩ := hf.shape
  refine ⟨[(a, c)], rfl, ⟨rfl, .inr ⟨nb, 1, _, rfl, hB, hk, Nat.le_refl _, by unfold maxLen; simp, rfl, rfl⟩⟩, fun i hi hi' => ?_⟩
  obtain rfl : i = 0 := by simp at hi; exact hi
  exact hf.mono fun k _ hk => ⟨hk.1, fun e => by
    have e' : nb = k := Option.some.inj e
    exact hk.2 e'.symm⟩
end Go.Proofs.YtpiiadmjddikfaaDoor
