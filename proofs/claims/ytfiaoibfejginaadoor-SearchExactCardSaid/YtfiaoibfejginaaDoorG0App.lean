/- append at rows that the call owns, whatever the element: the lemmas of stage 5's texts, without their rule bases. -/
import Derived.Test.YtfiaoibfejginaaDoorG0Row
import Derived.OwnWalk
namespace Go.Proofs.YtfiaoibfejginaaDoor
set_option linter.unusedVariables false
set_option linter.unusedSimpArgs false
open Go Go.RowKit

theorem bgrow (w : World) (o : Obj) : Below w.heap.size w (w.alloc o) := (Below.refl _ _).alloc (Nat.le_refl _) o
theorem blk_kept2 {w w' : World} {b : Nat} {o : Obj} (h : w.heap[b]? = some o) (hb : Below w.heap.size w w') : w'.heap[b]? = some o := (hb.block b (lt_of_block h)).trans h
theorem size_setCell9 (w : World) (a : Addr) (v : Value) : (w.setCell a v).heap.size = w.heap.size := by simp [World.setCell]

/-- The block of what append hands back: the old one, or a new one. -/
theorem append_blk5 {P : Program} {w : World} (base : Nat) (t ty e : TypeId) (i : TypeInfo) (z : Value) (ht : P.underlying t = some (.slice e)) (hi : P.info? e = some i) (hz : i.zero = some z)
    (v : Value) (n : Nat) (xs : List Value) (hown : w.ownsRow base e i.size v n xs) (a : Addr) (m c : Nat) (news : List Value) (hl : news.length = m * i.size) (hnews : ∀ j u, news[j]? = some u → w.cell? (a.add j) = some u) (h1 : ∀ u ∈ news, u.oneCell' = true)
    (hm : 0 < m) (hsmall : n + m ≤ 1000000000) (hbytes : (n + m) * i.bytes ≤ 140737488355328) {v' : Value} {w' : World} (hr : (Builtin.append_ #[t, t] ty #[v, .slice (some a) m c]).run P w = .ok v' w') :
    v'.ownBlock = v.ownBlock ∨ v'.ownBlock = some w.heap.size := by
  rcases hown.2 with ⟨rfl, rfl⟩ | ⟨g, cap, cur, rfl, -, hg, hnc, -, hcs, -⟩
  · have hx := run_append_nil (P := P) w t ty e i z ht hi hz a m c news hl hnews hm (by omega) (by have := hbytes; simp only [Nat.zero_add] at this; omega)
    rw [hx] at hr
    injection hr with hr
    rw [← hr]
    exact .inr rfl
  · by_cases hroom : n + m ≤ cap
    · have hx := run_append_room (P := P) w t ty e i ht hi g n cap cur hg a m c news hl hnews h1 hroom (by rw [hl, hcs, ← Nat.add_mul]; exact Nat.mul_le_mul_right _ hroom)
      rw [hx] at hr
      injection hr with hr
      rw [← hr]
      exact .inl rfl
    · have hx := run_append_grow (P := P) w t ty e i z ht hi hz ⟨g, 0, none⟩ n cap xs hown.1 (hown.cells (g := g) rfl) a m c news hl hnews (by omega) (by omega) (growslice_fits (by omega) hbytes)
      rw [hx] at hr
      injection hr with hr
      rw [← hr]
      exact .inr rfl

theorem addr_add0 (b j : Nat) : (⟨b, 0, none⟩ : Addr).add j = ⟨b, j, none⟩ := by unfold Addr.add; split <;> simp_all
theorem cells_news {w : World} {m : Nat} {cs : Array Value} {ty : TypeId} (h : w.heap[m]? = some (.cells cs ty (0, 0))) : ∀ j u, cs.toList[j]? = some u → w.cell? ((⟨m, 0, none⟩ : Addr).add j) = some u := by
  intro j u hj
  rw [addr_add0]
  have hj' : cs[j]? = some u := by rw [← hj, Array.getElem?_toList]
  simp [World.cell?, h, hj']

/-- The facts of a row's element type. -/
structure ElemOf (T e : TypeId) (k by' : Nat) : Prop where
  und : Tryd.prog.underlying T = some (.slice e)
  info : ∃ i z, Tryd.prog.info? e = some i ∧ i.zero = some z ∧ i.size = k ∧ i.bytes = by' ∧ z.cells.size = k
  pos : 0 < k
  small : by' ≤ 1000

theorem run_append_one {w : World} {T e : TypeId} {k by' : Nat} (hE : ElemOf T e k by') (ty : TypeId) (B : Nat) (v : Value) (n : Nat) (xs : List Value) (hown : w.ownsRow B e k v n xs)
    (m c1 : Nat) (cs : Array Value) (tm : TypeId) (hm : w.heap[m]? = some (.cells cs tm (0, 0))) (hcs : cs.size = k) (hone : ∀ u ∈ cs.toList, u.oneCell' = true) (hlen : n ≤ 1000000) (hB : B ≤ w.heap.size) :
    ∃ v' w', (Builtin.append_ #[T, T] ty #[v, .slice (some ⟨m, 0, none⟩) 1 c1]).run Tryd.prog w = .ok v' w' ∧ w'.ownsRow B e k v' (n + 1) (xs ++ cs.toList) ∧ w.grownBy w' v.ownBlock ∧ (v'.ownBlock = v.ownBlock ∨ v'.ownBlock = some w.heap.size) := by
  obtain ⟨i, z, hi, hz, hk, hb, hzc⟩ := hE.info
  have hsm := hE.small
  subst hk hb
  have hl : cs.toList.length = 1 * i.size := by rw [Array.length_toList, hcs, Nat.one_mul]
  have hby : (n + 1) * i.bytes ≤ 140737488355328 := Nat.le_trans (Nat.mul_le_mul (show n + 1 ≤ 1000001 by omega) hsm) (by decide)
  obtain ⟨v', w', hr, h2, h3, h4⟩ := run_append_own (P := Tryd.prog) w B T ty e i z i.size i.bytes hE.und hi hz rfl rfl hzc hE.pos v n xs hown ⟨m, 0, none⟩ 1 c1 _ hl (cells_news hm) hone (by unfold maxLen; omega) hby hB
  exact ⟨v', w', hr, h2, h3, append_blk5 (P := Tryd.prog) (w := w) B T ty e i z hE.und hi hz v n xs hown ⟨m, 0, none⟩ 1 c1 _ hl (cells_news hm) hone (by omega) (by omega) hby hr⟩

/-- append of one element, at a step of a walk. -/
theorem wpList_append_one {w : World} {ops : Array Oper} {rest : List Oper} {o : Oper} {a : Act} {Q : Exit → Act → World → Prop} (hgd : o.guard = none) (s x : Operand) {T e : TypeId} {k by' : Nat} (hE : ElemOf T e k by')
    (ho : o.op = .call { callee := .builtin .append, args := #[s, x], argTypes := #[T, T] }) (B : Nat) (v : Value) (n : Nat) (xs : List Value) (hs : a.eval s = v) (hown : w.ownsRow B e k v n xs)
    (m c1 : Nat) (hx : a.eval x = .slice (some ⟨m, 0, none⟩) 1 c1) (cs : Array Value) (tm : TypeId) (hm : w.heap[m]? = some (.cells cs tm (0, 0))) (hcs : cs.size = k) (hone : ∀ u ∈ cs.toList, u.oneCell' = true) (hlen : n ≤ 1000000) (hB : B ≤ w.heap.size)
    (h : ∀ v' w', w'.ownsRow B e k v' (n + 1) (xs ++ cs.toList) → w.grownBy w' v.ownBlock → (v'.ownBlock = v.ownBlock ∨ v'.ownBlock = some w.heap.size) → wpList Tryd.prog ops Q rest (a.put o.dst v') w') : wpList Tryd.prog ops Q (o :: rest) a w := by
  obtain ⟨v', w', hr, h2, h3, h4⟩ := run_append_one hE o.type B v n xs hown m c1 cs tm hm hcs hone hlen hB
  refine wpList_plain hgd fun K hK => ?_
  unfold Oper.wp execOp
  simp only [ho, resolve, invoke, builtin, Sem.run_bind, Sem.run_pure, Result.andThen_ok, List.map_toArray, List.map_cons, List.map_nil, hs, hx, hr]
  exact hK _ _ (h v' w' h2 h3 h4)

theorem step_append_one {w : World} {ops : Array Oper} {o : Oper} {a : Act} {K : Act → World → Prop} {Q : Exit → Act → World → Prop} {E : Prop} (hgd : o.guard = none) (s x : Operand) {T e : TypeId} {k by' : Nat} (hE : ElemOf T e k by')
    (ho : o.op = .call { callee := .builtin .append, args := #[s, x], argTypes := #[T, T] }) (B : Nat) (v : Value) (n : Nat) (xs : List Value) (hs : a.eval s = v) (hown : w.ownsRow B e k v n xs)
    (m c1 : Nat) (hx : a.eval x = .slice (some ⟨m, 0, none⟩) 1 c1) (cs : Array Value) (tm : TypeId) (hm : w.heap[m]? = some (.cells cs tm (0, 0))) (hcs : cs.size = k) (hone : ∀ u ∈ cs.toList, u.oneCell' = true) (hlen : n ≤ 1000000) (hB : B ≤ w.heap.size)
    (h : ∀ v' w', w'.ownsRow B e k v' (n + 1) (xs ++ cs.toList) → w.grownBy w' v.ownBlock → (v'.ownBlock = v.ownBlock ∨ v'.ownBlock = some w.heap.size) → K (a.put o.dst v') w') :
    if Region.wanted o (yielded ops a.tmps) = true then Oper.wp Tryd.prog o a w K Q else E := by
  have hw : Region.wanted o (yielded ops a.tmps) = true := by simp [Region.wanted, hgd]
  rw [if_pos hw]
  obtain ⟨v', w', hr, h2, h3, h4⟩ := run_append_one hE o.type B v n xs hown m c1 cs tm hm hcs hone hlen hB
  unfold Oper.wp execOp
  simp only [ho, resolve, invoke, builtin, Sem.run_bind, Sem.run_pure, Result.andThen_ok, List.map_toArray, List.map_cons, List.map_nil, hs, hx, hr]
  exact h v' w' h2 h3 h4

theorem elem_of {T e : TypeId} {k by' : Nat} {z : Value} (hu : Tryd.prog.underlying T = some (.slice e)) (h : (Tryd.prog.info? e).map (fun i => (i.zero, i.size, i.bytes)) = some (some z, k, by')) (hz : z.cells.size = k) (hk : 0 < k) (hb : by' ≤ 1000) : ElemOf T e k by' := by
  obtain ⟨i0, hi, h0, h1, h2⟩ := info_parts h
  exact ⟨hu, ⟨i0, z, hi, h0, h1, h2, hz⟩, hk, hb⟩
theorem flat_get {α : Type} (enc : α → List Value) (k : Nat) (hk : ∀ x, (enc x).length = k) : ∀ (xs : List α) (i j : Nat) (h : i < xs.length), j < k → (xs.flatMap enc)[i * k + j]? = (enc xs[i])[j]?
  | [], i, j, h, _ => by simp at h
  | x :: r, 0, j, h, hj => by
    rw [List.flatMap_cons, Nat.zero_mul, Nat.zero_add, List.getElem?_append_left (by rw [hk]; exact hj)]
    rfl
  | x :: r, i + 1, j, h, hj => by
    have ih := flat_get enc k hk r i j (by simpa using h) hj
    rw [List.flatMap_cons, List.getElem?_append_right (by rw [hk, Nat.add_mul]; omega), hk, show (i + 1) * k + j - k = i * k + j by rw [Nat.add_mul]; omega, ih]
    rfl

theorem owns_blk {w : World} {B : Nat} {e : TypeId} {k : Nat} {v : Value} {n : Nat} {xs : List Value} (h : w.ownsRow B e k v n xs) : ∀ g, v.ownBlock = some g → B ≤ g ∧ g < w.heap.size := World.ownsRow.lt h
/-- An owned row is kept by what leaves its block alone. -/
theorem owns_kept {w w' : World} {B : Nat} {e : TypeId} {k : Nat} {v : Value} {n : Nat} {xs : List Value} (h : w.ownsRow B e k v n xs) (hb : ∀ g, v.ownBlock = some g → w'.heap[g]? = w.heap[g]?) : w'.ownsRow B e k v n xs := by
  refine ⟨h.1, ?_⟩
  rcases h.2 with h0 | ⟨g, cap, cur, hv, hB, hg, h2⟩
  · exact .inl h0
  · exact .inr ⟨g, cap, cur, hv, hB, by rw [hb g (by rw [hv]; rfl)]; exact hg, h2⟩
theorem owns_slice {w : World} {B : Nat} {e : TypeId} {k : Nat} {v : Value} {n : Nat} {xs : List Value} (h : w.ownsRow B e k v (n + 1) xs) : ∃ g cap : Nat, v = .slice (some ⟨g, 0, none⟩) (n + 1) cap ∧ B ≤ g := by
  rcases h.2 with ⟨-, h0⟩ | ⟨g, cap, cur, hv, hB, -⟩
  · omega
  · exact ⟨g, cap, hv, hB⟩
theorem shape_own {w : World} {B : Nat} {e : TypeId} {k : Nat} {v : Value} {n : Nat} {xs : List Value} (h : w.ownsRow B e k v n xs) : ∃ (a : Option Addr) (c : Nat), v = .slice a n c ∧ n ≤ c ∧ c ≤ maxLen := by
  rcases h.2 with ⟨rfl, rfl⟩ | ⟨g, cap, cur, rfl, -, -, h1, h2, -⟩
  · exact ⟨none, 0, rfl, Nat.le_refl _, Nat.zero_le _⟩
  · exact ⟨_, cap, rfl, h1, h2⟩

theorem one_of {l : List Value} (h : l.all (fun u => u.oneCell') = true) : ∀ u ∈ l, u.oneCell' = true := fun u hu => List.all_eq_true.1 h u hu
theorem below_app5 {n : Nat} {w a a' : World} {row : Option Nat} (h : Below n w a) (hg : a.grownBy a' row) (hr : ∀ g, row = some g → n ≤ g) (hna : n ≤ a.heap.size) : Below n w a' :=
  ⟨hg.os.trans h.os, hg.tape.trans h.tape, hg.output.trans h.output, Nat.le_trans h.size hg.size, fun k hk => (hg.block k (by omega) (fun e => by have := hr k e.symm; omega)).trans (h.block k hk)⟩
theorem below_set5 {n b i : Nat} {u : Value} {w a : World} (h : Below n w a) (hb : n ≤ b) : Below n w (a.setCell ⟨b, i, none⟩ u) :=
  ⟨h.os, h.tape, h.output, by rw [size_setCell9]; exact h.size, fun k hk => (Below.heap_setCell a ⟨b, i, none⟩ u k (by show k ≠ b; omega)).trans (h.block k hk)⟩
/-- append of one element, at a step of a walk, with the block of what it hands back. -/
theorem wpList_append_kb {w : World} {ops : Array Oper} {rest : List Oper} {o : Oper} {a : Act} {Q : Exit → Act → World → Prop} (hgd : o.guard = none) (s x : Operand) {T e : TypeId} {k by' : Nat} (hE : ElemOf T e k by')
    (ho : o.op = .call { callee := .builtin .append, args := #[s, x], argTypes := #[T, T] }) (B : Nat) (v : Value) (n : Nat) (xs : List Value) (hs : a.eval s = v) (hown : w.ownsRow B e k v n xs)
    (m c1 : Nat) (hx : a.eval x = .slice (some ⟨m, 0, none⟩) 1 c1) (cs : Array Value) (tm : TypeId) (hm : w.heap[m]? = some (.cells cs tm (0, 0))) (hcs : cs.size = k) (hone : ∀ u ∈ cs.toList, u.oneCell' = true) (hlen : n ≤ 1000000) (hB : B ≤ w.heap.size)
    (h : ∀ g cap w', w'.ownsRow B e k (.slice (some ⟨g, 0, none⟩) (n + 1) cap) (n + 1) (xs ++ cs.toList) → w.grownBy w' v.ownBlock → ((Value.slice (some ⟨g, 0, none⟩) (n + 1) cap).ownBlock = v.ownBlock ∨ (Value.slice (some ⟨g, 0, none⟩) (n + 1) cap).ownBlock = some w.heap.size) → wpList Tryd.prog ops Q rest (a.put o.dst (.slice (some ⟨g, 0, none⟩) (n + 1) cap)) w') : wpList Tryd.prog ops Q (o :: rest) a w :=
  wpList_append_one hgd s x hE ho B v n xs hs hown m c1 hx cs tm hm hcs hone hlen hB fun v' w' h1 h2 h3 => by
    obtain ⟨g, cap, rfl, hg⟩ := owns_slice h1
    exact h g cap w' h1 h2 h3

theorem set_cells {w : World} {nb i : Nat} {cs : Array Value} {u : Value} {t : TypeId} (h : w.heap[nb]? = some (.cells cs t (0, 0))) : (w.setCell ⟨nb, i, none⟩ u).heap[nb]? = some (.cells (cs.setIfInBounds i u) t (0, 0)) := heap_setCell_same w nb i cs t u h
theorem owns_cell {w : World} {B : Nat} {e : TypeId} {k : Nat} {v : Value} {n : Nat} {xs : List Value} (h : w.ownsRow B e k v n xs) {g c : Nat} {m : Nat} (hv : v = .slice (some ⟨g, 0, none⟩) m c) (j : Nat) (u : Value) (hj : xs[j]? = some u) : w.cell? ⟨g, j, none⟩ = some u := by
  subst hv
  have := World.ownsRow.cells h (g := g) rfl j u hj
  rwa [addr_add0] at this
end Go.Proofs.YtfiaoibfejginaaDoor
