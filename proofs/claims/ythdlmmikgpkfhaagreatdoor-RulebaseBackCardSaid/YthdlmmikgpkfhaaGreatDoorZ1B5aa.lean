/- A rule base that a call builds: a box of three rows that the call owns. -/
import Derived.Test.YthdlmmikgpkfhaaGreatDoorZ1D

namespace Go.Proofs.YthdlmmikgpkfhaaGreatDoor
set_option linter.unusedVariables false
set_option linter.unusedSimpArgs false
open Go Go.RowKit

/-- Block R holds the base's three rows, which lie, with the bodies, in blocks from B on; no two share a block. -/
structure BsIn (w : World) (B R : Nat) (b : Bs) (pv rv qv : Value) : Prop where
  box : w.heap[R]? = some (.cells #[pv, rv, qv] 26 (0, 0))
  lt : R < B
  p : OwnPm w B pv b.prems
  r : OwnRu w B (fun k => B ≤ k ∧ pv.ownBlock ≠ some k ∧ qv.ownBlock ≠ some k) rv b.rules
  q : OwnPr w B qv b.proms
  pr : ∀ g, pv.ownBlock = some g → rv.ownBlock ≠ some g
  pq : ∀ g, pv.ownBlock = some g → qv.ownBlock ≠ some g
  rq : ∀ g, rv.ownBlock = some g → qv.ownBlock ≠ some g

theorem shape_own {w : World} {B : Nat} {e : TypeId} {k : Nat} {v : Value} {n : Nat} {xs : List Value} (h : w.ownsRow B e k v n xs) : ∃ (a : Option Addr) (c : Nat), v = .slice a n c ∧ n ≤ c ∧ c ≤ maxLen := by
  rcases h.2 with ⟨rfl, rfl⟩ | ⟨g, cap, cur, rfl, -, -, h1, h2, -⟩
  · exact ⟨none, 0, rfl, Nat.le_refl _, Nat.zero_le _⟩
  · exact ⟨_, cap, rfl, h1, h2⟩

section
variable {w w' : World} {B R : Nat} {b : Bs} {pv rv qv : Value}
theorem BsIn.go (h : BsIn w B R b pv rv qv) (hb : Below w.heap.size w w') : BsIn w' B R b pv rv qv := by
  have hk := fun k (hk : k < w.heap.size) => hb.block k hk
  exact ⟨blk_kept2 h.box hb, h.lt, owns_kept h.p fun g e => hk g (owns_blk h.p g e).2, h.r.kept (fun g e => hk g (h.r.blk g e).2) (fun k _ hl => hk k hl) hb.size (fun k hS _ => hS), owns_kept h.q fun g e => hk g (owns_blk h.q g e).2, h.pr, h.pq, h.rq⟩
theorem BsIn.base (h : BsIn w B R b pv rv qv) : BaseAt w (.agg #[pv, rv, qv]) b := ⟨pv, rv, qv, rfl, OwnPm.at_ h.p, h.r.at_, OwnPr.at_ h.q⟩

/-- What append of one premise, rule, promotion and the store behind it give. -/
theorem BsIn.addP {pv' : Value} {p : Pm} (h : BsIn w B R b pv rv qv) (h2 : w'.ownsRow B 64 5 pv' (b.prems.length + 1) (b.prems.flatMap encPm ++ encPm p)) (hg : w.grownBy w' pv.ownBlock) (hbl : pv'.ownBlock = pv.ownBlock ∨ pv'.ownBlock = some w.heap.size) :
    BsIn (w'.setCell ⟨R, 0, none⟩ pv') B R ⟨b.prems ++ [p], b.rules, b.proms⟩ pv' rv qv := by
  have hne : ∀ g, pv.ownBlock = some g → g ≠ R := fun g e => by have := (owns_blk h.p g e).1; have := h.lt; omega
  have hset : ∀ k, k ≠ R → (w'.setCell ⟨R, 0, none⟩ pv').heap[k]? = w'.heap[k]? := fun k hk => Below.heap_setCell w' ⟨R, 0, none⟩ pv' k hk
  have hbox : w'.heap[R]? = some (.cells #[pv, rv, qv] 26 (0, 0)) := (hg.block R (lt_of_block h.box) (fun e => hne R e.symm rfl)).trans h.box
  have hnew : ∀ k, k < w.heap.size → pv.ownBlock ≠ some k → pv'.ownBlock ≠ some k := fun k hk hp e => by
    rcases hbl with e2 | e2
    · exact hp (by rw [← e2, e])
    · rw [e2] at e; injection e with e; omega
  have hsame : ∀ k, k < w.heap.size → pv.ownBlock ≠ some k → k ≠ R → (w'.setCell ⟨R, 0, none⟩ pv').heap[k]? = w.heap[k]? := fun k hk hp hR => (hset k hR).trans (hg.block k hk (fun e => hp e.symm))
  refine ⟨setB pv' hbox, h.lt, ?_, ?_, ?_, ?_, ?_, h.rq⟩
  · exact owns_kept (OwnPm.snoc h2) fun g e => hset g (by
      have hlt := h.lt
      have := (owns_blk h2 g e).1
      omega)
  · refine h.r.kept (fun g e => hsame g (h.r.blk g e).2 (fun e2 => h.pr g e2 e) (by have := (h.r.blk g e).1; have := h.lt; omega)) (fun k hS hl => hsame k hl hS.2.1 (by have := hS.1; have := h.lt; omega)) (by rw [size_setCell]; exact hg.size) (fun k hS hl => ⟨hS.1, hnew k hl hS.2.1, hS.2.2⟩)
  · exact owns_kept h.q fun g e => hsame g (owns_blk h.q g e).2 (fun e2 => h.pq g e2 e) (by have := (owns_blk h.q g e).1; have := h.lt; omega)
  · intro g e e2
    exact hnew g (h.r.blk g e2).2 (fun e3 => h.pr g e3 e2) e
  · intro g e e2
    exact hnew g (owns_blk h.q g e2).2 (fun e3 => h.pq g e3 e2) e
theorem BsIn.addQ {qv' : Value} {p : Pr} (h : BsIn w B R b pv rv qv) (h2 : w'.ownsRow B 68 4 qv' (b.proms.length + 1) (b.proms.flatMap encPr ++ encPr p)) (hg : w.grownBy w' qv.ownBlock) (hbl : qv'.ownBlock = qv.ownBlock ∨ qv'.ownBlock = some w.heap.size) :
    BsIn (w'.setCell ⟨R, 2, none⟩ qv') B R ⟨b.prems, b.rules, b.proms ++ [p]⟩ pv rv qv' := by
  have hne : ∀ g, qv.ownBlock = some g → g ≠ R := fun g e => by have := (owns_blk h.q g e).1; have := h.lt; omega
  have hset : ∀ k, k ≠ R → (w'.setCell ⟨R, 2, none⟩ qv').heap[k]? = w'.heap[k]? := fun k hk => Below.heap_setCell w' ⟨R, 2, none⟩ qv' k hk
  have hbox : w'.heap[R]? = some (.cells #[pv, rv, qv] 26 (0, 0)) := (hg.block R (lt_of_block h.box) (fun e => hne R e.symm rfl)).trans h.box
  have hnew : ∀ k, k < w.heap.size → qv.ownBlock ≠ some k → qv'.ownBlock ≠ some k := fun k hk hp e => by
    rcases hbl with e2 | e2
    · exact hp (by rw [← e2, e])
    · rw [e2] at e; injection e with e; omega
  have hsame : ∀ k, k < w.heap.size → qv.ownBlock ≠ some k → k ≠ R → (w'.setCell ⟨R, 2, none⟩ qv').heap[k]? = w.heap[k]? := fun k hk hp hR => (hset k hR).trans (hg.block k hk (fun e => hp e.symm))
  refine ⟨setB qv' hbox, h.lt, ?_, ?_, ?_, h.pr, ?_, ?_⟩
  · exact owns_kept h.p fun g e => hsame g (owns_blk h.p g e).2 (h.pq g e) (by have := (owns_blk h.p g e).1; have := h.lt; omega)
  · refine h.r.kept (fun g e => hsame g (h.r.blk g e).2 (h.rq g e) (by have := (h.r.blk g e).1; have := h.lt; omega)) (fun k hS hl => hsame k hl hS.2.2 (by have := hS.1; have := h.lt; omega)) (by rw [size_setCell]; exact hg.size) (fun k hS hl => ⟨hS.1, hS.2.1, hnew k hl hS.2.2⟩)
  · exact owns_kept (OwnPr.snoc h2) fun g e => hset g (by
      have hlt := h.lt
      have := (owns_blk h2 g e).1
      omega)
  · intro g e
    exact hnew g (owns_blk h.p g e).2 (h.pq g e)
  · intro g e
    exact hnew g (h.r.blk g e).2 (h.rq g e)
theorem BsIn.addR {rv' bv : Value} {r : Ru} (h : BsIn w B R b pv rv qv) {bs : List Value} (hl : bs.length = b.rules.length)
    (hf : ∀ i (h : i < b.rules.length) (h' : i < bs.length), BodyIn w (fun k => (B ≤ k ∧ pv.ownBlock ≠ some k ∧ qv.ownBlock ≠ some k) ∧ rv.ownBlock ≠ some k) bs[i] b.rules[i].body)
    (h2 : w'.ownsRow B 66 6 rv' (b.rules.length + 1) (((b.rules.zip bs).flatMap fun x => encRu x.1 x.2) ++ encRu r bv)) (hg : w.grownBy w' rv.ownBlock) (hbl : rv'.ownBlock = rv.ownBlock ∨ rv'.ownBlock = some w.heap.size)
    (hb : BodyIn w (fun k => (B ≤ k ∧ pv.ownBlock ≠ some k ∧ qv.ownBlock ≠ some k) ∧ rv.ownBlock ≠ some k) bv r.body) :
    BsIn (w'.setCell ⟨R, 1, none⟩ rv') B R ⟨b.prems, b.rules ++ [r], b.proms⟩ pv rv' qv := by
  have hne : ∀ g, rv.ownBlock = some g → g ≠ R := fun g e => by have := (h.r.blk g e).1; have := h.lt; omega
  have hset : ∀ k, k ≠ R → (w'.setCell ⟨R, 1, none⟩ rv').heap[k]? = w'.heap[k]? := fun k hk => Below.heap_setCell w' ⟨R, 1, none⟩ rv' k hk
  have hbox : w'.heap[R]? = some (.cells #[pv, rv, qv] 26 (0, 0)) := (hg.block R (lt_of_block h.box) (fun e => hne R e.symm rfl)).trans h.box
  have hnew : ∀ k, k < w.heap.size → rv.ownBlock ≠ some k → rv'.ownBlock ≠ some k := fun k hk hp e => by
    rcases hbl with e2 | e2
    · exact hp (by rw [← e2, e])
    · rw [e2] at e; injection e with e; omega
  have hsame : ∀ k, k < w.heap.size → rv.ownBlock ≠ some k → k ≠ R → (w'.setCell ⟨R, 1, none⟩ rv').heap[k]? = w.heap[k]? := fun k hk hp hR => (hset k hR).trans (hg.block k hk (fun e => hp e.symm))
  have hR := OwnRu.snoc hl hf h2 hg hbl hb
  refine ⟨setB rv' hbox, h.lt, ?_, ?_, ?_, ?_, h.pq, ?_⟩
  · exact owns_kept h.p fun g e => hsame g (owns_blk h.p g e).2 (h.pr g e) (by have := (owns_blk h.p g e).1; have := h.lt; omega)
  · refine hR.kept (fun g e => hset g (by have := (hR.blk g e).1; have := h.lt; omega)) (fun k hS hl => hset k (by have := hS.1; have := h.lt; omega)) (by rw [size_setCell]; exact Nat.le_refl _) (fun k hS hl => hS)
  · exact owns_kept h.q fun g e => hsame g (owns_blk h.q g e).2 (fun e2 => h.rq g e2 e) (by have := (owns_blk h.q g e).1; have := h.lt; omega)
  · intro g e
    exact hnew g (owns_blk h.p g e).2 (h.pr g e)
  · intro g e e2
    exact hnew g (owns_blk h.q g e2).2 (fun e3 => h.rq g e3 e2) e
end
theorem BsIn.new (w : World) : BsIn (w.alloc (.cells #[.slice none 0 0, .slice none 0 0, .slice none 0 0] 26)) (w.heap.size + 1) w.heap.size ⟨[], [], []⟩ (.slice none 0 0) (.slice none 0 0) (.slice none 0 0) :=
  ⟨heap_alloc_new w _, by omega, OwnPm.nil _ _, OwnRu.nil _ _ _, OwnPr.nil _ _, fun g e => by simp [Value.ownBlock] at e, fun g e => by simp [Value.ownBlock] at e, fun g e => by simp [Value.ownBlock] at e⟩

/-- append of one element, with the block of what it hands back. -/
theorem step_append_sb {w : World} {ops : Array Oper} {o : Oper} {a : Act} {K : Act → World → Prop} {Q : Exit → Act → World → Prop} {E : Prop} (hgd : o.guard = none) (s x : Operand) {T e : TypeId} {k by' : Nat} (hE : ElemOf T e k by')
    (ho : o.op = .call { callee := .builtin .append, args := #[s, x], argTypes := #[T, T] }) (B : Nat) (v : Value) (n : Nat) (xs : List Value) (hs : a.eval s = v) (hown : w.ownsRow B e k v n xs)
    (m c1 : Nat) (hx : a.eval x = .slice (some ⟨m, 0, none⟩) 1 c1) (cs : Array Value) (tm : TypeId) (hm : w.heap[m]? = some (.cells cs tm (0, 0))) (hcs : cs.size = k) (hone : ∀ u ∈ cs.toList, u.oneCell' = true) (hlen : n ≤ 1000000) (hB : B ≤ w.heap.size)
    (h : ∀ g cap w', w'.ownsRow B e k (.slice (some ⟨g, 0, none⟩) (n + 1) cap) (n + 1) (xs ++ cs.toList) → w.grownBy w' v.ownBlock → ((Value.slice (some ⟨g, 0, none⟩) (n + 1) cap).ownBlock = v.ownBlock ∨ (Value.slice (some ⟨g, 0, none⟩) (n + 1) cap).ownBlock = some w.heap.size) → K (a.put o.dst (.slice (some ⟨g, 0, none⟩) (n + 1) cap)) w') :
    if Region.wanted o (yielded ops a.tmps) = true then Oper.wp Tryz.prog o a w K Q else E :=
  step_append_one hgd s x hE ho B v n xs hs hown m c1 hx cs tm hm hcs hone hlen hB fun v' w' h1 h2 h3 => by
    obtain ⟨g, cap, rfl, hg⟩ := owns_slice h1
    exact h g cap w' h1 h2 h3
theorem one_of {l : List Value} (h : l.all (fun u => u.oneCell') = true) : ∀ u ∈ l, u.oneCell' = true := fun u hu => List.all_eq_true.1 h u hu
theorem below_grown5 {n R : Nat} {w a a' : World} (h : Below n w a) (hg : a.grownBy a' (some R)) (hn : n ≤ R) (hna : n ≤ a.heap.size) : Below n w a' :=
  ⟨hg.os.trans h.os, hg.tape.trans h.tape, hg.output.trans h.output, Nat.le_trans h.size hg.size, fun k hk => (hg.block k (by omega) (fun e => by injection e with e; omega)).trans (h.block k hk)⟩
end Go.Proofs.YthdlmmikgpkfhaaGreatDoor
