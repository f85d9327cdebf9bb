/- Rows that a call owns: append of one element, whatever it holds; premises, rules, promotions. -/
import Derived.Test.YthdlmmikgpkfhaaGreatDoorZ1B
import Derived.OwnWalk

namespace Go.Proofs.YthdlmmikgpkfhaaGreatDoor
set_option linter.unusedVariables false
set_option linter.unusedSimpArgs false
open Go Go.RowKit

/-- The block of what append hands back: the old one, or a new one. -/
theorem append_blk5 {P : Program} {w : World} (base : Nat) (t ty e : TypeId) (i : TypeInfo) (z : Value) (ht : P.underlying t = some (.slice e)) (hi : P.info? e = some i) (hz : i.zero = some z)
    (v : Value) (n : Nat) (xs : List Value) (hown : w.ownsRow base e i.size v n xs) (a : Addr) (m c : Nat) (news : List Value) (hl : news.length = m * i.size) (hnews : ∀ j u, news[j]? = some u → w.cell? (a.add j) = some u) (h1 : ∀ u ∈ news, u.oneCell' = true)
    (hm : 0 < m) (hsmall : n + m ≤ 1000000000) (hbytes : (n + m) * i.bytes ≤ 140737488355328) {v' : Value} {w' : World} (hr : (Builtin.append_ #[t, t] ty #[v, .slice (some a) m c]).run P w = .ok v' w') :
    v'.ownBlock = v.ownBlock ∨ v'.ownBlock = some w.heap.size := by
  rcases hown.2 with ⟨rfl, rfl⟩ | ⟨g, cap, cur, rfl, -, hg, hnc, -, hcs, -⟩
  · have hx := run_append_nil (P := P) w t ty e i z ht hi hz a m c news hl hnews hm (by omega) (by have := hbytes; simp only [Nat.zero_add] at this; omega)
    rw [hx] at hr
    injection hr with hr
    rw [← hr]
    exact .inr rfl
  · by_cases hroom : n + m ≤ cap
    · have hx := run_append_room (P := P) w t ty e i ht hi g n cap cur hg a m c news hl hnews h1 hroom (by rw [hl, hcs, ← Nat.add_mul]; exact Nat.mul_le_mul_right _ hroom)
      rw [hx] at hr
      injection hr with hr
      rw [← hr]
      exact .inl rfl
    · have hx := run_append_grow (P := P) w t ty e i z ht hi hz ⟨g, 0, none⟩ n cap xs hown.1 (hown.cells (g := g) rfl) a m c news hl hnews (by omega) (by omega) (growslice_fits (by omega) hbytes)
      rw [hx] at hr
      injection hr with hr
      rw [← hr]
      exact .inr rfl

theorem addr_add0 (b j : Nat) : (⟨b, 0, none⟩ : Addr).add j = ⟨b, j, none⟩ := by unfold Addr.add; split <;> simp_all
theorem cells_news {w : World} {m : Nat} {cs : Array Value} {ty : TypeId} (h : w.heap[m]? = some (.cells cs ty (0, 0))) : ∀ j u, cs.toList[j]? = some u → w.cell? ((⟨m, 0, none⟩ : Addr).add j) = some u := by
  intro j u hj
  rw [addr_add0]
  have hj' : cs[j]? = some u := by rw [← hj, Array.getElem?_toList]
  simp [World.cell?, h, hj']

/-- The facts of a row's element type. -/
structure ElemOf (T e : TypeId) (k by' : Nat) : Prop where
  und : Tryz.prog.underlying T = some (.slice e)
  info : ∃ i z, Tryz.prog.info? e = some i ∧ i.zero = some z ∧ i.size = k ∧ i.bytes = by' ∧ z.cells.size = k
  pos : 0 < k
  small : by' ≤ 1000

theorem run_append_one {w : World} {T e : TypeId} {k by' : Nat} (hE : ElemOf T e k by') (ty : TypeId) (B : Nat) (v : Value) (n : Nat) (xs : List Value) (hown : w.ownsRow B e k v n xs)
    (m c1 : Nat) (cs : Array Value) (tm : TypeId) (hm : w.heap[m]? = some (.cells cs tm (0, 0))) (hcs : cs.size = k) (hone : ∀ u ∈ cs.toList, u.oneCell' = true) (hlen : n ≤ 1000000) (hB : B ≤ w.heap.size) :
    ∃ v' w', (Builtin.append_ #[T, T] ty #[v, .slice (some ⟨m, 0, none⟩) 1 c1]).run Tryz.prog w = .ok v' w' ∧ w'.ownsRow B e k v' (n + 1) (xs ++ cs.toList) ∧ w.grownBy w' v.ownBlock ∧ (v'.ownBlock = v.ownBlock ∨ v'.ownBlock = some w.heap.size) := by
  obtain ⟨i, z, hi, hz, hk, hb, hzc⟩ := hE.info
  have hsm := hE.small
  subst hk hb
  have hl : cs.toList.length = 1 * i.size := by rw [Array.length_toList, hcs, Nat.one_mul]
  have hby : (n + 1) * i.bytes ≤ 140737488355328 := Nat.le_trans (Nat.mul_le_mul (show n + 1 ≤ 1000001 by omega) hsm) (by decide)
  obtain ⟨v', w', hr, h2, h3, h4⟩ := run_append_own (P := Tryz.prog) w B T ty e i z i.size i.bytes hE.und hi hz rfl rfl hzc hE.pos v n xs hown ⟨m, 0, none⟩ 1 c1 _ hl (cells_news hm) hone (by unfold maxLen; omega) hby hB
  exact ⟨v', w', hr, h2, h3, append_blk5 (P := Tryz.prog) (w := w) B T ty e i z hE.und hi hz v n xs hown ⟨m, 0, none⟩ 1 c1 _ hl (cells_news hm) hone (by omega) (by omega) hby hr⟩

/-- append of one element, at a step of a walk. -/
theorem wpList_append_one {w : World} {ops : Array Oper} {rest : List Oper} {o : Oper} {a : Act} {Q : Exit → Act → World → Prop} (hgd : o.guard = none) (s x : Operand) {T e : TypeId} {k by' : Nat} (hE : ElemOf T e k by')
    (ho : o.op = .call { callee := .builtin .append, args := #[s, x], argTypes := #[T, T] }) (B : Nat) (v : Value) (n : Nat) (xs : List Value) (hs : a.eval s = v) (hown : w.ownsRow B e k v n xs)
    (m c1 : Nat) (hx : a.eval x = .slice (some ⟨m, 0, none⟩) 1 c1) (cs : Array Value) (tm : TypeId) (hm : w.heap[m]? = some (.cells cs tm (0, 0))) (hcs : cs.size = k) (hone : ∀ u ∈ cs.toList, u.oneCell' = true) (hlen : n ≤ 1000000) (hB : B ≤ w.heap.size)
    (h : ∀ v' w', w'.ownsRow B e k v' (n + 1) (xs ++ cs.toList) → w.grownBy w' v.ownBlock → (v'.ownBlock = v.ownBlock ∨ v'.ownBlock = some w.heap.size) → wpList Tryz.prog ops Q rest (a.put o.dst v') w') : wpList Tryz.prog ops Q (o :: rest) a w := by
  obtain ⟨v', w', hr, h2, h3, h4⟩ := run_append_one hE o.type B v n xs hown m c1 cs tm hm hcs hone hlen hB
  refine wpList_plain hgd fun K hK => ?_
  unfold Oper.wp execOp
  simp only [ho, resolve, invoke, builtin, Sem.run_bind, Sem.run_pure, Result.andThen_ok, List.map_toArray, List.map_cons, List.map_nil, hs, hx, hr]
  exact hK _ _ (h v' w' h2 h3 h4)

theorem step_append_one {w : World} {ops : Array Oper} {o : Oper} {a : Act} {K : Act → World → Prop} {Q : Exit → Act → World → Prop} {E : Prop} (hgd : o.guard = none) (s x : Operand) {T e : TypeId} {k by' : Nat} (hE : ElemOf T e k by')
    (ho : o.op = .call { callee := .builtin .append, args := #[s, x], argTypes := #[T, T] }) (B : Nat) (v : Value) (n : Nat) (xs : List Value) (hs : a.eval s = v) (hown : w.ownsRow B e k v n xs)
    (m c1 : Nat) (hx : a.eval x = .slice (some ⟨m, 0, none⟩) 1 c1) (cs : Array Value) (tm : TypeId) (hm : w.heap[m]? = some (.cells cs tm (0, 0))) (hcs : cs.size = k) (hone : ∀ u ∈ cs.toList, u.oneCell' = true) (hlen : n ≤ 1000000) (hB : B ≤ w.heap.size)
    (h : ∀ v' w', w'.ownsRow B e k v' (n + 1) (xs ++ cs.toList) → w.grownBy w' v.ownBlock → (v'.ownBlock = v.ownBlock ∨ v'.ownBlock = some w.heap.size) → K (a.put o.dst v') w') :
    if Region.wanted o (yielded ops a.tmps) = true then Oper.wp Tryz.prog o a w K Q else E := by
  have hw : Region.wanted o (yielded ops a.tmps) = true := by simp [Region.wanted, hgd]
  rw [if_pos hw]
  obtain ⟨v', w', hr, h2, h3, h4⟩ := run_append_one hE o.type B v n xs hown m c1 cs tm hm hcs hone hlen hB
  unfold Oper.wp execOp
  simp only [ho, resolve, invoke, builtin, Sem.run_bind, Sem.run_pure, Result.andThen_ok, List.map_toArray, List.map_cons, List.map_nil, hs, hx, hr]
  exact h v' w' h2 h3 h4

theorem infoPm : (Tryz.prog.info? 64).map (fun i => (i.zero, i.size, i.bytes)) = some (some (.agg #[.bool false, .string ⟨#[]⟩, .int .i64 0, .int .i64 0, .string ⟨#[]⟩]), 5, 56) := by kernel_rfl
theorem infoRu : (Tryz.prog.info? 66).map (fun i => (i.zero, i.size, i.bytes)) = some (some (.agg #[.string ⟨#[]⟩, .bool false, .int .i64 0, .slice none 0 0, .bool false, .string ⟨#[]⟩]), 6, 80) := by kernel_rfl
theorem infoPr : (Tryz.prog.info? 68).map (fun i => (i.zero, i.size, i.bytes)) = some (some (.agg #[.string ⟨#[]⟩, .int .i64 0, .bool false, .string ⟨#[]⟩]), 4, 48) := by kernel_rfl
theorem elem_of {T e : TypeId} {k by' : Nat} {z : Value} (hu : Tryz.prog.underlying T = some (.slice e)) (h : (Tryz.prog.info? e).map (fun i => (i.zero, i.size, i.bytes)) = some (some z, k, by')) (hz : z.cells.size = k) (hk : 0 < k) (hb : by' ≤ 1000) : ElemOf T e k by' := by
  obtain ⟨i0, hi, h0, h1, h2⟩ := info_parts h
  exact ⟨hu, ⟨i0, z, hi, h0, h1, h2, hz⟩, hk, hb⟩
theorem elemPm : ElemOf 22 64 5 56 := elem_of Tryz.underlying22 infoPm rfl (by decide) (by decide)
theorem elemRu : ElemOf 23 66 6 80 := elem_of Tryz.underlying23 infoRu rfl (by decide) (by decide)
theorem elemPr : ElemOf 24 68 4 48 := elem_of Tryz.underlying24 infoPr rfl (by decide) (by decide)

/-- The cells of one element. -/
def encPm (p : Pm) : List Value := [.bool p.lit.neg, .string p.lit.name, .int .i64 p.kind, .int .i64 p.rank, .string p.src]
def encRu (r : Ru) (bv : Value) : List Value := [.string r.name, .bool r.strict, .int .i64 r.rank, bv, .bool r.head.neg, .string r.head.name]
def encPr (p : Pr) : List Value := [.string p.rule, .int .i64 p.rank, .bool p.lit.neg, .string p.lit.name]

theorem flat_get {α : Type} (enc : α → List Value) (k : Nat) (hk : ∀ x, (enc x).length = k) : ∀ (xs : List α) (i j : Nat) (h : i < xs.length), j < k → (xs.flatMap enc)[i * k + j]? = (enc xs[i])[j]?
  | [], i, j, h, _ => by simp at h
  | x :: r, 0, j, h, hj => by
    rw [List.flatMap_cons, Nat.zero_mul, Nat.zero_add, List.getElem?_append_left (by rw [hk]; exact hj)]
    rfl
  | x :: r, i + 1, j, h, hj => by
    have ih := flat_get enc k hk r i j (by simpa using h) hj
    rw [List.flatMap_cons, List.getElem?_append_right (by rw [hk, Nat.add_mul]; omega), hk, show (i + 1) * k + j - k = i * k + j by rw [Nat.add_mul]; omega, ih]
    rfl

/-- A row that the call owns, with its cells. -/
theorem owns_cell {w : World} {B : Nat} {e : TypeId} {k : Nat} {v : Value} {n : Nat} {xs : List Value} (h : w.ownsRow B e k v n xs) {g c : Nat} {m : Nat} (hv : v = .slice (some ⟨g, 0, none⟩) m c) (j : Nat) (u : Value) (hj : xs[j]? = some u) : w.cell? ⟨g, j, none⟩ = some u := by
  subst hv
  have := World.ownsRow.cells h (g := g) rfl j u hj
  rwa [addr_add0] at this

def OwnPm (w : World) (B : Nat) (v : Value) (ps : List Pm) : Prop := w.ownsRow B 64 5 v ps.length (ps.flatMap encPm)
def OwnPr (w : World) (B : Nat) (v : Value) (ps : List Pr) : Prop := w.ownsRow B 68 4 v ps.length (ps.flatMap encPr)
/-- A body whose cells lie in blocks of S. -/
def BodyIn (w : World) (S : Nat → Prop) (v : Value) (xs : List Lt) : Prop :=
  (v = .slice none 0 0 ∧ xs = []) ∨
  ∃ (b off cap : Nat), v = .slice (some ⟨b, off, none⟩) xs.length cap ∧ xs.length ≤ cap ∧ cap ≤ maxLen ∧ b < w.heap.size ∧ S b ∧
    ∀ i (h : i < xs.length), w.cell? ⟨b, off + i * 2, none⟩ = some (.bool (xs[i]).neg) ∧ w.cell? ⟨b, off + i * 2 + 1, none⟩ = some (.string (xs[i]).name)
theorem BodyIn.at_ {w : World} {S : Nat → Prop} {v : Value} {xs : List Lt} (h : BodyIn w S v xs) : BodyAt w v xs := by
  rcases h with ⟨h, h0⟩ | ⟨b, off, cap, h1, h2, h3, h4, -, h5⟩
  · exact .inl ⟨h ▸ noRow_nil, h0⟩
  · exact .inr ⟨b, off, cap, h1, h2, h3, h4, h5⟩
theorem BodyIn.mono {w : World} {S S' : Nat → Prop} {v : Value} {xs : List Lt} (h : BodyIn w S v xs) (hS : ∀ k, S k → S' k) : BodyIn w S' v xs := by
  rcases h with h | ⟨b, off, cap, h1, h2, h3, h4, h6, h5⟩
  · exact .inl h
  · exact .inr ⟨b, off, cap, h1, h2, h3, h4, hS b h6, h5⟩
/-- It is kept by whatever leaves the blocks of S alone. -/
theorem BodyIn.kept {w w' : World} {S S' : Nat → Prop} {v : Value} {xs : List Lt} (h : BodyIn w S v xs) (hb : ∀ k, S k → k < w.heap.size → w'.heap[k]? = w.heap[k]?) (hs : w.heap.size ≤ w'.heap.size) (hS : ∀ k, S k → k < w.heap.size → S' k) : BodyIn w' S' v xs := by
  rcases h with h | ⟨b, off, cap, h1, h2, h3, h4, h6, h5⟩
  · exact .inl h
  · refine .inr ⟨b, off, cap, h1, h2, h3, by omega, hS b h6 h4, fun i hi => ?_⟩
    have e : ∀ o, w'.cell? ⟨b, o, none⟩ = w.cell? ⟨b, o, none⟩ := fun o => by unfold World.cell?; rw [hb b h6 h4]
    rw [e, e]
    exact h5 i hi
def OwnRu (w : World) (B : Nat) (S : Nat → Prop) (v : Value) (rs : List Ru) : Prop :=
  ∃ bs : List Value, bs.length = rs.length ∧ w.ownsRow B 66 6 v rs.length ((rs.zip bs).flatMap fun x => encRu x.1 x.2) ∧ ∀ i (h : i < rs.length) (h' : i < bs.length), BodyIn w (fun k => S k ∧ v.ownBlock ≠ some k) bs[i] rs[i].body

theorem OwnPm.at_ {w : World} {B : Nat} {v : Value} {ps : List Pm} (h : OwnPm w B v ps) : PmsAt w v ps := by
  rcases h.2 with ⟨rfl, h0⟩ | ⟨g, cap, cur, hv, hB, hg, hnc, hcm, -, -⟩
  · exact .inl ⟨noRow_nil, List.eq_nil_of_length_eq_zero h0⟩
  · refine .inr ⟨g, 0, cap, hv, hnc, hcm, lt_of_block hg, fun i hi => ?_⟩
    have hc := fun j (hj : j < 5) (u : Value) (hu : (encPm ps[i])[j]? = some u) => owns_cell h hv (i * 5 + j) u (by rw [flat_get encPm 5 (fun _ => rfl) ps i j hi hj]; exact hu)
    rw [Nat.zero_add]
    exact ⟨hc 0 (by decide) _ rfl, hc 1 (by decide) _ rfl, hc 2 (by decide) _ rfl, hc 3 (by decide) _ rfl, hc 4 (by decide) _ rfl⟩
theorem OwnPr.at_ {w : World} {B : Nat} {v : Value} {ps : List Pr} (h : OwnPr w B v ps) : PrsAt w v ps := by
  rcases h.2 with ⟨rfl, h0⟩ | ⟨g, cap, cur, hv, hB, hg, hnc, hcm, -, -⟩
  · exact .inl ⟨noRow_nil, List.eq_nil_of_length_eq_zero h0⟩
  · refine .inr ⟨g, 0, cap, hv, hnc, hcm, lt_of_block hg, fun i hi => ?_⟩
    have hc := fun j (hj : j < 4) (u : Value) (hu : (encPr ps[i])[j]? = some u) => owns_cell h hv (i * 4 + j) u (by rw [flat_get encPr 4 (fun _ => rfl) ps i j hi hj]; exact hu)
    rw [Nat.zero_add]
    exact ⟨hc 0 (by decide) _ rfl, hc 1 (by decide) _ rfl, hc 2 (by decide) _ rfl, hc 3 (by decide) _ rfl⟩
theorem OwnRu.at_ {w : World} {B : Nat} {S : Nat → Prop} {v : Value} {rs : List Ru} (h : OwnRu w B S v rs) : RusAt w v rs := by
  obtain ⟨bs, hl, ho, hb⟩ := h
  rcases ho.2 with ⟨rfl, h0⟩ | ⟨g, cap, cur, hv, hB, hg, hnc, hcm, -, -⟩
  · exact .inl ⟨noRow_nil, List.eq_nil_of_length_eq_zero h0⟩
  · refine .inr ⟨g, 0, cap, hv, hnc, hcm, lt_of_block hg, fun i hi => ?_⟩
    have hi2 : i < (rs.zip bs).length := by rw [List.length_zip]; omega
    have hi3 : i < bs.length := by omega
    have hc := fun j (hj : j < 6) (u : Value) (hu : (encRu rs[i] bs[i])[j]? = some u) => owns_cell ho hv (i * 6 + j) u (by
      rw [flat_get (fun x : Ru × Value => encRu x.1 x.2) 6 (fun _ => rfl) (rs.zip bs) i j hi2 hj, List.getElem_zip]; exact hu)
    rw [Nat.zero_add]
    exact ⟨bs[i], hc 0 (by decide) _ rfl, hc 1 (by decide) _ rfl, hc 2 (by decide) _ rfl, hc 3 (by decide) _ rfl, hc 4 (by decide) _ rfl, hc 5 (by decide) _ rfl, (hb i hi hi3).at_⟩

theorem owns_blk {w : World} {B : Nat} {e : TypeId} {k : Nat} {v : Value} {n : Nat} {xs : List Value} (h : w.ownsRow B e k v n xs) : ∀ g, v.ownBlock = some g → B ≤ g ∧ g < w.heap.size := World.ownsRow.lt h
/-- An owned row is kept by what leaves its block alone. -/
theorem owns_kept {w w' : World} {B : Nat} {e : TypeId} {k : Nat} {v : Value} {n : Nat} {xs : List Value} (h : w.ownsRow B e k v n xs) (hb : ∀ g, v.ownBlock = some g → w'.heap[g]? = w.heap[g]?) : w'.ownsRow B e k v n xs := by
  refine ⟨h.1, ?_⟩
  rcases h.2 with h0 | ⟨g, cap, cur, hv, hB, hg, h2⟩
  · exact .inl h0
  · exact .inr ⟨g, cap, cur, hv, hB, by rw [hb g (by rw [hv]; rfl)]; exact hg, h2⟩
theorem OwnRu.kept {w w' : World} {B : Nat} {S S' : Nat → Prop} {v : Value} {rs : List Ru} (h : OwnRu w B S v rs) (hv : ∀ g, v.ownBlock = some g → w'.heap[g]? = w.heap[g]?) (hb : ∀ k, S k → k < w.heap.size → w'.heap[k]? = w.heap[k]?) (hs : w.heap.size ≤ w'.heap.size) (hS : ∀ k, S k → k < w.heap.size → S' k) : OwnRu w' B S' v rs := by
  obtain ⟨bs, hl, ho, hf⟩ := h
  exact ⟨bs, hl, owns_kept ho hv, fun i hi hi' => (hf i hi hi').kept (fun k hk hl => hb k hk.1 hl) hs (fun k hk hl => ⟨hS k hk.1 hl, hk.2⟩)⟩
theorem OwnRu.blk {w : World} {B : Nat} {S : Nat → Prop} {v : Value} {rs : List Ru} (h : OwnRu w B S v rs) : ∀ g, v.ownBlock = some g → B ≤ g ∧ g < w.heap.size := by
  obtain ⟨bs, hl, ho, hf⟩ := h
  exact owns_blk ho

/-- What append of one rule gives. -/
theorem OwnRu.snoc {w w' : World} {B : Nat} {S : Nat → Prop} {v v' : Value} {rs : List Ru} {r : Ru} {bv : Value} {bs : List Value} (hl : bs.length = rs.length)
    (hf : ∀ i (h : i < rs.length) (h' : i < bs.length), BodyIn w (fun k => S k ∧ v.ownBlock ≠ some k) bs[i] rs[i].body)
    (h2 : w'.ownsRow B 66 6 v' (rs.length + 1) (((rs.zip bs).flatMap fun x => encRu x.1 x.2) ++ encRu r bv)) (hg : w.grownBy w' v.ownBlock) (hbl : v'.ownBlock = v.ownBlock ∨ v'.ownBlock = some w.heap.size)
    (hb : BodyIn w (fun k => S k ∧ v.ownBlock ≠ some k) bv r.body) : OwnRu w' B S v' (rs ++ [r]) := by
  have key : ∀ {u : Value} {xs : List Lt}, BodyIn w (fun k => S k ∧ v.ownBlock ≠ some k) u xs → BodyIn w' (fun k => S k ∧ v'.ownBlock ≠ some k) u xs := fun h => h.kept (fun k hk hl => hg.block k hl (fun e => hk.2 e.symm)) hg.size (fun k hk hl => ⟨hk.1, fun e => by
    rcases hbl with h | h
    · exact hk.2 (by rw [← h, e])
    · rw [h] at e; injection e with e; omega⟩)
  refine ⟨bs ++ [bv], by simp [hl], ?_, fun i hi hi' => ?_⟩
  · rw [List.zip_append (by omega), List.flatMap_append, List.length_append]
    have e : ([r].zip [bv]).flatMap (fun x => encRu x.1 x.2) = encRu r bv := by simp
    rw [e]
    exact h2
  · by_cases hi3 : i < rs.length
    · simp only [List.getElem_append_left hi3, List.getElem_append_left (show i < bs.length by omega)]
      exact key (hf i hi3 (by omega))
    · have hi4 : i = rs.length := by simp at hi; omega
      subst hi4
      simp only [List.getElem_append_right (Nat.le_refl _), List.getElem_append_right (show bs.length ≤ rs.length by omega), hl, Nat.sub_self, List.getElem_cons_zero]
      exact key hb

theorem OwnPm.snoc {w : World} {B : Nat} {v : Value} {ps : List Pm} {p : Pm} (h : w.ownsRow B 64 5 v (ps.length + 1) (ps.flatMap encPm ++ encPm p)) : OwnPm w B v (ps ++ [p]) := by
  unfold OwnPm
  rw [List.flatMap_append, List.length_append]
  simpa using h
theorem OwnPr.snoc {w : World} {B : Nat} {v : Value} {ps : List Pr} {p : Pr} (h : w.ownsRow B 68 4 v (ps.length + 1) (ps.flatMap encPr ++ encPr p)) : OwnPr w B v (ps ++ [p]) := by
  unfold OwnPr
  rw [List.flatMap_append, List.length_append]
  simpa using h
theorem OwnPm.nil (w : World) (B : Nat) : OwnPm w B (.slice none 0 0) [] := World.ownsRow_nil w B _ _
theorem OwnPr.nil (w : World) (B : Nat) : OwnPr w B (.slice none 0 0) [] := World.ownsRow_nil w B _ _
theorem OwnRu.nil (w : World) (B : Nat) (S : Nat → Prop) : OwnRu w B S (.slice none 0 0) [] := ⟨[], rfl, World.ownsRow_nil w B _ _, fun i h => by simp at h⟩
end Go.Proofs.YthdlmmikgpkfhaaGreatDoor
