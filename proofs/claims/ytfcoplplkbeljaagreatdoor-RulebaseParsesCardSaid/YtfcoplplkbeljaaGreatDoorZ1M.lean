/- A rule base under construction beside a reader of numbers: what calls and appends leave of it. Steps and relations for regions of XRelN, in the class of worlds that grow. Relations for drawn regions beside a reader of numbers: the class of worlds that grow but for the reader's block. -/
import Derived.Test.YtfcoplplkbeljaaGreatDoorZ1L
import Derived.Test.YtfcoplplkbeljaaGreatDoorZ1J
import Derived.Test.YtfcoplplkbeljaaGreatDoorZ1K
import Derived.Test.YtfcoplplkbeljaaGreatDoorRelN
import Derived.Test.YtfcoplplkbeljaaGreatDoorRelS
import Derived.Test.YtfcoplplkbeljaaGreatDoorZ1B

namespace Go.Proofs.YtfcoplplkbeljaaGreatDoor
set_option linter.unusedVariables false
set_option linter.unusedSimpArgs false
open Go Go.RowKit

theorem BodyIn.grown {w w' : World} {S : Nat → Prop} {v : Value} {xs : List Lt} {row : Option Nat} (h : BodyIn w S v xs) (hg : w.grownBy w' row) (hr : ∀ g, row = some g → ¬ S g) : BodyIn w' S v xs :=
  h.kept (fun k hS hk => hg.block k hk (fun e => hr k e.symm hS)) hg.size (fun _ hS _ => hS)
theorem BsIn.grown {w w' : World} {B R : Nat} {b : Bs} {pv rv qv : Value} {row : Option Nat} (h : BsIn w B R b pv rv qv) (hg : w.grownBy w' row) (hr : ∀ g, row = some g → g < R) : BsIn w' B R b pv rv qv := by
  have hRB := h.lt
  have hk : ∀ k, R ≤ k → k < w.heap.size → w'.heap[k]? = w.heap[k]? := fun k h1 h2 => hg.block k h2 (fun e => by have := hr k e.symm; omega)
  exact ⟨(hk R (Nat.le_refl _) (lt_of_block h.box)).trans h.box, h.lt,
    owns_kept h.p fun g e => hk g (by have := (owns_blk h.p g e).1; omega) (owns_blk h.p g e).2,
    h.r.kept (fun g e => hk g (by have := (h.r.blk g e).1; omega) (h.r.blk g e).2) (fun k hS hl => hk k (by have := hS.1; omega) hl) hg.size (fun k hS _ => hS),
    owns_kept h.q fun g e => hk g (by have := (owns_blk h.q g e).1; omega) (owns_blk h.q g e).2, h.pr, h.pq, h.rq⟩

/-- The base's box stands behind the result's, and both behind the reader. -/
structure Run5 (w : World) (B b : Nat) (zs : List Int) (wr : World) (q : Nat) (bs : Bs) (pv rv qv : Value) : Prop where
  ok : BsIn wr (w.heap.size + 2) (w.heap.size + 1) bs pv rv qv
  res : wr.heap[w.heap.size]? = some (.cells #[.slice none 0 0, .slice none 0 0, .slice none 0 0] 32 (0, 0))
  src : SrcAt wr B b zs q
  gr : w.grownBy wr (some b)
  lt : b < w.heap.size

section
variable {w wr w' : World} {B b q q' : Nat} {zs : List Int} {bs : Bs} {pv rv qv : Value}
theorem Run5.begin (h : SrcAt w B b zs q) : Run5 w B b zs ((w.alloc (.cells #[.slice none 0 0, .slice none 0 0, .slice none 0 0] 32)).alloc (.cells #[.slice none 0 0, .slice none 0 0, .slice none 0 0] 32)) q ⟨[], [], []⟩ (.slice none 0 0) (.slice none 0 0) (.slice none 0 0) := by
  have h1 := BsIn.new (w.alloc (.cells #[.slice none 0 0, .slice none 0 0, .slice none 0 0] 32))
  rw [size_alloc] at h1
  exact ⟨h1, blk_kept2 (heap_alloc_new w _) (bgrow _ _), (h.alloc _).alloc _, only_alloc (only_alloc (only_refl _ _) _) _, h.lt⟩
theorem Run5.size (h : Run5 w B b zs wr q bs pv rv qv) : w.heap.size + 2 ≤ wr.heap.size := by have := lt_of_block h.ok.box; omega
/-- A call that reads numbers. -/
theorem Run5.call (h : Run5 w B b zs wr q bs pv rv qv) (hs : SrcAt w' B b zs q') (hg : wr.grownBy w' (some b)) : Run5 w B b zs w' q' bs pv rv qv := by
  have hl := h.lt
  have hz := h.size
  exact ⟨h.ok.grown hg (fun g e => by injection e with e; omega), (hg.block w.heap.size (by omega) (fun e => by injection e with e; omega)).trans h.res, hs, only_trans h.gr hg, h.lt⟩
/-- What only makes memory. -/
theorem Run5.more (h : Run5 w B b zs wr q bs pv rv qv) (hb : Below wr.heap.size wr w') : Run5 w B b zs w' q bs pv rv qv :=
  h.call (h.src.grow (only_of_below hb none)) (only_of_below hb _)
theorem Run5.base_le (h : Run5 w B b zs wr q bs pv rv qv) : B ≤ b := h.src.base
theorem own_apart {v : Value} {g : Nat} (h : v.ownBlock = some g) {n : Nat} (hn : n ≤ g) {k : Nat} (hk : k < n) : g ≠ k := by omega

theorem Run5.addP (h : Run5 w B b zs wr q bs pv rv qv) {pv' : Value} {p : Pm} (h2 : w'.ownsRow (w.heap.size + 2) 74 5 pv' (bs.prems.length + 1) (bs.prems.flatMap encPm ++ encPm p)) (hg : wr.grownBy w' pv.ownBlock) (hbl : pv'.ownBlock = pv.ownBlock ∨ pv'.ownBlock = some wr.heap.size) :
    Run5 w B b zs (w'.setCell ⟨w.heap.size + 1, 0, none⟩ pv') q ⟨bs.prems ++ [p], bs.rules, bs.proms⟩ pv' rv qv := by
  have hl := h.lt
  have hz := h.size
  have hB := h.base_le
  have ho : ∀ g, pv.ownBlock = some g → w.heap.size + 2 ≤ g := fun g e => (owns_blk h.ok.p g e).1
  refine ⟨h.ok.addP h2 hg hbl, ?_, (h.src.kept hg (fun g e => ⟨by have := ho g e; omega, by have := ho g e; omega⟩)).setCell _ _ (by show B ≤ w.heap.size + 1; omega) (by show w.heap.size + 1 ≠ b; omega), only_setCell (only_own h.gr hg (fun g e => by have := ho g e; omega)) (.inr (by show w.heap.size ≤ w.heap.size + 1; omega)) _, h.lt⟩
  rw [Below.heap_setCell w' ⟨w.heap.size + 1, 0, none⟩ pv' w.heap.size (by show w.heap.size ≠ w.heap.size + 1; omega)]
  exact (hg.block w.heap.size (by omega) (fun e => by have := ho _ e.symm; omega)).trans h.res
theorem Run5.addQ (h : Run5 w B b zs wr q bs pv rv qv) {qv' : Value} {p : Pr} (h2 : w'.ownsRow (w.heap.size + 2) 78 4 qv' (bs.proms.length + 1) (bs.proms.flatMap encPr ++ encPr p)) (hg : wr.grownBy w' qv.ownBlock) (hbl : qv'.ownBlock = qv.ownBlock ∨ qv'.ownBlock = some wr.heap.size) :
    Run5 w B b zs (w'.setCell ⟨w.heap.size + 1, 2, none⟩ qv') q ⟨bs.prems, bs.rules, bs.proms ++ [p]⟩ pv rv qv' := by
  have hl := h.lt
  have hz := h.size
  have hB := h.base_le
  have ho : ∀ g, qv.ownBlock = some g → w.heap.size + 2 ≤ g := fun g e => (owns_blk h.ok.q g e).1
  refine ⟨h.ok.addQ h2 hg hbl, ?_, (h.src.kept hg (fun g e => ⟨by have := ho g e; omega, by have := ho g e; omega⟩)).setCell _ _ (by show B ≤ w.heap.size + 1; omega) (by show w.heap.size + 1 ≠ b; omega), only_setCell (only_own h.gr hg (fun g e => by have := ho g e; omega)) (.inr (by show w.heap.size ≤ w.heap.size + 1; omega)) _, h.lt⟩
  rw [Below.heap_setCell w' ⟨w.heap.size + 1, 2, none⟩ qv' w.heap.size (by show w.heap.size ≠ w.heap.size + 1; omega)]
  exact (hg.block w.heap.size (by omega) (fun e => by have := ho _ e.symm; omega)).trans h.res
theorem Run5.addR (h : Run5 w B b zs wr q bs pv rv qv) {rv' bv : Value} {r : Ru} {vs : List Value} (hvl : vs.length = bs.rules.length)
    (hf : ∀ i (h : i < bs.rules.length) (h' : i < vs.length), BodyIn wr (fun k => (w.heap.size + 2 ≤ k ∧ pv.ownBlock ≠ some k ∧ qv.ownBlock ≠ some k) ∧ rv.ownBlock ≠ some k) vs[i] bs.rules[i].body)
    (h2 : w'.ownsRow (w.heap.size + 2) 64 6 rv' (bs.rules.length + 1) (((bs.rules.zip vs).flatMap fun x => encRu x.1 x.2) ++ encRu r bv)) (hg : wr.grownBy w' rv.ownBlock) (hbl : rv'.ownBlock = rv.ownBlock ∨ rv'.ownBlock = some wr.heap.size)
    (hb : BodyIn wr (fun k => (w.heap.size + 2 ≤ k ∧ pv.ownBlock ≠ some k ∧ qv.ownBlock ≠ some k) ∧ rv.ownBlock ≠ some k) bv r.body) :
    Run5 w B b zs (w'.setCell ⟨w.heap.size + 1, 1, none⟩ rv') q ⟨bs.prems, bs.rules ++ [r], bs.proms⟩ pv rv' qv := by
  have hl := h.lt
  have hz := h.size
  have hB := h.base_le
  have ho : ∀ g, rv.ownBlock = some g → w.heap.size + 2 ≤ g := fun g e => (h.ok.r.blk g e).1
  refine ⟨h.ok.addR hvl hf h2 hg hbl hb, ?_, (h.src.kept hg (fun g e => ⟨by have := ho g e; omega, by have := ho g e; omega⟩)).setCell _ _ (by show B ≤ w.heap.size + 1; omega) (by show w.heap.size + 1 ≠ b; omega), only_setCell (only_own h.gr hg (fun g e => by have := ho g e; omega)) (.inr (by show w.heap.size ≤ w.heap.size + 1; omega)) _, h.lt⟩
  rw [Below.heap_setCell w' ⟨w.heap.size + 1, 1, none⟩ rv' w.heap.size (by show w.heap.size ≠ w.heap.size + 1; omega)]
  exact (hg.block w.heap.size (by omega) (fun e => by have := ho _ e.symm; omega)).trans h.res
end

theorem flat_one5 (ys : List Lt) : ∀ u ∈ flatL ys, u.oneCell' = true := fun u hu => by
  rw [flatL_eq] at hu
  obtain ⟨x, -, hx⟩ := List.mem_flatMap.1 hu
  rcases List.mem_cons.1 hx with rfl | hx
  · rfl
  · rw [List.mem_singleton.1 hx]; rfl
theorem bgrow_drew (w : World) (n : Nat) (o : Obj) : Below w.heap.size w ((w.drewN n).alloc o) := by
  have h := bgrow (w.drewN n) o
  exact ⟨h.os, h.tape, h.output, h.size, h.block⟩
theorem elemLit : ElemOf 44 46 2 24 := elem_of Tryz.underlying44 infoL rfl (by decide) (by decide)
/-- append of one element, at a step of a walk, with the block of what it hands back. -/
theorem wpList_append_kb {w : World} {ops : Array Oper} {rest : List Oper} {o : Oper} {a : Act} {Q : Exit → Act → World → Prop} (hgd : o.guard = none) (s x : Operand) {T e : TypeId} {k by' : Nat} (hE : ElemOf T e k by')
    (ho : o.op = .call { callee := .builtin .append, args := #[s, x], argTypes := #[T, T] }) (B : Nat) (v : Value) (n : Nat) (xs : List Value) (hs : a.eval s = v) (hown : w.ownsRow B e k v n xs)
    (m c1 : Nat) (hx : a.eval x = .slice (some ⟨m, 0, none⟩) 1 c1) (cs : Array Value) (tm : TypeId) (hm : w.heap[m]? = some (.cells cs tm (0, 0))) (hcs : cs.size = k) (hone : ∀ u ∈ cs.toList, u.oneCell' = true) (hlen : n ≤ 1000000) (hB : B ≤ w.heap.size)
    (h : ∀ g cap w', w'.ownsRow B e k (.slice (some ⟨g, 0, none⟩) (n + 1) cap) (n + 1) (xs ++ cs.toList) → w.grownBy w' v.ownBlock → ((Value.slice (some ⟨g, 0, none⟩) (n + 1) cap).ownBlock = v.ownBlock ∨ (Value.slice (some ⟨g, 0, none⟩) (n + 1) cap).ownBlock = some w.heap.size) → wpList Tryz.prog ops Q rest (a.put o.dst (.slice (some ⟨g, 0, none⟩) (n + 1) cap)) w') : wpList Tryz.prog ops Q (o :: rest) a w :=
  wpList_append_one hgd s x hE ho B v n xs hs hown m c1 hx cs tm hm hcs hone hlen hB fun v' w' h1 h2 h3 => by
    obtain ⟨g, cap, rfl, hg⟩ := owns_slice h1
    exact h g cap w' h1 h2 h3

/-- Boxes that a walk fills cell by cell. -/
theorem set_cells {w : World} {nb i : Nat} {cs : Array Value} {u : Value} {t : TypeId} (h : w.heap[nb]? = some (.cells cs t (0, 0))) : (w.setCell ⟨nb, i, none⟩ u).heap[nb]? = some (.cells (cs.setIfInBounds i u) t (0, 0)) := heap_setCell_same w nb i cs t u h
theorem set_blk5 {w : World} {nb : Nat} {a0 a1 a2 a3 a4 b0 b1 b2 b3 b4 : Value} {t : TypeId} (h : w.heap[nb]? = some (.cells #[a0, a1, a2, a3, a4] t (0, 0))) :
    (((((w.setCell ⟨nb, 0, none⟩ b0).setCell ⟨nb, 1, none⟩ b1).setCell ⟨nb, 2, none⟩ b2).setCell ⟨nb, 3, none⟩ b3).setCell ⟨nb, 4, none⟩ b4).heap[nb]? = some (.cells #[b0, b1, b2, b3, b4] t (0, 0)) :=
  set_cells (set_cells (set_cells (set_cells (set_cells h))))
theorem set_blk6 {w : World} {nb : Nat} {a0 a1 a2 a3 a4 a5 b0 b1 b2 b3 b4 b5 : Value} {t : TypeId} (h : w.heap[nb]? = some (.cells #[a0, a1, a2, a3, a4, a5] t (0, 0))) :
    ((((((w.setCell ⟨nb, 0, none⟩ b0).setCell ⟨nb, 1, none⟩ b1).setCell ⟨nb, 2, none⟩ b2).setCell ⟨nb, 3, none⟩ b3).setCell ⟨nb, 4, none⟩ b4).setCell ⟨nb, 5, none⟩ b5).heap[nb]? = some (.cells #[b0, b1, b2, b3, b4, b5] t (0, 0)) :=
  set_cells (set_cells (set_cells (set_cells (set_cells (set_cells h)))))
end Go.Proofs.YtfcoplplkbeljaaGreatDoor

namespace Go.Proofs.YtfcoplplkbeljaaGreatDoor.Own
set_option linter.unusedVariables false
set_option linter.unusedSimpArgs false
open Go Go.RowKit

/-- A relation; its value's block is nobody's business. -/
def rA (r : Value → World → Prop) : RelO := ⟨r, false⟩
/-- A relation; the value's block is made here. -/
def rO (r : Value → World → Prop) : RelO := ⟨r, true⟩
def isVal (x : Value) : Value → World → Prop := fun v _ => v = x
theorem isVal_up (x : Value) : GoesUp (isVal x) := fun _ _ _ _ h => h
theorem stableO_nil (C : World → Prop) : Stable C Grows (relTab []) := ⟨fun _ _ h => Below.size h, fun s r h => by cases h⟩
theorem stableO_cons {C : World → Prop} {t : Nat} {r : RelO} {l : List (Nat × RelO)} (hr : GoesUp r.rel) (h : Stable C Grows (relTab l)) : Stable C Grows (relTab ((t, r) :: l)) := by
  refine ⟨h.1, fun s r' hs => ?_⟩
  unfold relTab at hs
  split at hs
  · injection hs with hs
    subst hs
    exact fun v w w' _ _ hg hv => hr v w w' hg hv
  · exact h.2 s r' hs

/-- A callee's contract, in the walk. -/
theorem callA {P : Program} {f : FuncId} {args : Array Value} {W w : World} {r : Value → World → Prop} (hC : Ext W w) (h : Calls P f args w fun e w' => ∃ u, e = .returned u ∧ r u w' ∧ Below w.heap.size w w') :
    Calls P f args w fun e w'' => ∃ u, e = .returned u ∧ Ext W w'' ∧ Grows w w'' ∧ relR (rA r) w u w'' :=
  h.mono fun _ _ ⟨u, he, hr, hb⟩ => ⟨u, he, hC.grown hb, hb, hr, fun h => by cases h⟩
/-- A row of one element in a block of its own, with these cells. -/
def isBlk (cs : Array Value) (t : TypeId) : Value → World → Prop := fun v w => ∃ nb : Nat, v = .slice (some ⟨nb, 0, none⟩) 1 1 ∧ w.heap[nb]? = some (.cells cs t (0, 0))
theorem isBlk_up (cs : Array Value) (t : TypeId) : GoesUp (isBlk cs t) := fun _ _ _ hg ⟨nb, h1, h2⟩ => ⟨nb, h1, blk_kept2 h2 hg⟩
theorem blkA {W w : World} (hC : Ext W w) (cs : Array Value) (t : TypeId) : Ext W (w.alloc (.cells cs t)) ∧ Grows w (w.alloc (.cells cs t)) ∧ relR (rA (isBlk cs t)) w (.slice (some ⟨w.heap.size, 0, none⟩) 1 1) (w.alloc (.cells cs t)) :=
  ⟨hC.grown (bgrow w _), bgrow w _, ⟨_, rfl, heap_alloc_new _ _⟩, fun h => by cases h⟩
end Go.Proofs.YtfcoplplkbeljaaGreatDoor.Own

namespace Go.Proofs.YtfcoplplkbeljaaGreatDoor.Own
set_option linter.unusedVariables false
set_option linter.unusedSimpArgs false
open Go Go.RowKit

/-- Worlds that grow from W but for the reader's block. -/
def CB (W : World) (B b : Nat) (zs : List Int) (w : World) : Prop := W.grownBy w (some b) ∧ ∃ q, SrcAt w B b zs q
def GB (b : Nat) (w w' : World) : Prop := w.grownBy w' (some b)
def UpB (b : Nat) (r : Value → World → Prop) : Prop := ∀ v w w', GB b w w' → r v w → r v w'
theorem CB.start {W : World} {B b q : Nat} {zs : List Int} (h : SrcAt W B b zs q) : CB W B b zs W.drew := ⟨only_of_below (Below.refl _ _).drew _, q, h.grow (only_of_below (Below.refl _ _).drew none)⟩
theorem CB.one (W : World) (B b : Nat) (zs : List Int) (q : Nat) (h : SrcAt W B b zs q) : CB W B b zs W := ⟨only_refl _ _, q, h⟩
theorem CB.grown {W w w' : World} {B b : Nat} {zs : List Int} (h : CB W B b zs w) (hb : Below w.heap.size w w') : CB W B b zs w' := by
  obtain ⟨h1, q, h2⟩ := h
  exact ⟨only_trans h1 (only_of_below hb _), q, h2.grow (only_of_below hb none)⟩
theorem stableB_nil (C : World → Prop) (b : Nat) : Stable C (GB b) (relTab []) := ⟨fun _ _ h => h.size, fun s r h => by cases h⟩
theorem stableB_cons {C : World → Prop} {b : Nat} {t : Nat} {r : RelO} {l : List (Nat × RelO)} (hr : UpB b r.rel) (h : Stable C (GB b) (relTab l)) : Stable C (GB b) (relTab ((t, r) :: l)) := by
  refine ⟨h.1, fun s r' hs => ?_⟩
  unfold relTab at hs
  split at hs
  · injection hs with hs
    subst hs
    exact fun v w w' _ _ hg hv => hr v w w' hg hv
  · exact h.2 s r' hs
def isNat (n : Nat) : Value → World → Prop := fun v _ => ∃ m : Nat, v = .int .i64 (m : Int) ∧ m < n
theorem isNat_up (b n : Nat) : UpB b (isNat n) := fun _ _ _ _ h => h
def isLtr (n : Nat) : Value → World → Prop := fun v _ => ∃ (g : Bool) (m : Nat), v = .agg #[.bool g, .string (letter m)] ∧ m < n
theorem isLtr_up (b n : Nat) : UpB b (isLtr n) := fun _ _ _ _ h => h
/-- A new box with these cells. -/
def isBoxB (L b : Nat) (cs : Array Value) (t : TypeId) : Value → World → Prop := fun v w => ∃ nb : Nat, v = .pointer (some ⟨nb, 0, none⟩) ∧ L ≤ nb ∧ nb ≠ b ∧ w.heap[nb]? = some (.cells cs t (0, 0))
theorem keptB {b nb : Nat} {w w' : World} {o : Obj} (hg : GB b w w') (hne : nb ≠ b) (h : w.heap[nb]? = some o) : w'.heap[nb]? = some o := by
  have hl : nb < w.heap.size := by
    rcases Nat.lt_or_ge nb w.heap.size with h' | h'
    · exact h'
    · rw [Array.getElem?_eq_none h'] at h; cases h
  exact (World.grownBy.block hg nb hl (fun e => hne (by injection e))).trans h
theorem isBoxB_up (L b : Nat) (cs : Array Value) (t : TypeId) : UpB b (isBoxB L b cs t) := fun _ _ _ hg ⟨nb, h1, h2, h3, h4⟩ => ⟨nb, h1, h2, h3, keptB hg h3 h4⟩
/-- A new row of one promotion of this name. -/
def isPrB (L b n : Nat) (nm : ByteArray) : Value → World → Prop := fun v w => ∃ (nb m : Nat) (g : Bool) (hm : Nat), v = .slice (some ⟨nb, 0, none⟩) 1 1 ∧ L ≤ nb ∧ nb ≠ b ∧ m < 10 ∧ hm < n ∧ w.heap[nb]? = some (.cells #[.string nm, .int .i64 (m : Int), .bool g, .string (letter hm)] 78 (0, 0))
theorem isPrB_up (L b n : Nat) (nm : ByteArray) : UpB b (isPrB L b n nm) := fun _ _ _ hg ⟨nb, m, g, hm, h1, h2, h3, h4, h5, h6⟩ => ⟨nb, m, g, hm, h1, h2, h3, h4, h5, keptB hg h3 h6⟩

theorem callB {P : Program} {f : FuncId} {args : Array Value} {W w : World} {B b : Nat} {zs : List Int} {r : Value → World → Prop} (hC : CB W B b zs w) (h : Calls P f args w fun e w' => ∃ u, e = .returned u ∧ r u w' ∧ (∃ q, SrcAt w' B b zs q) ∧ w.grownBy w' (some b)) :
    Calls P f args w fun e w'' => ∃ u, e = .returned u ∧ CB W B b zs w'' ∧ GB b w w'' ∧ relR (rA r) w u w'' :=
  h.mono fun _ _ ⟨u, he, hr, hs, hg⟩ => ⟨u, he, ⟨only_trans hC.1 hg, hs⟩, hg, hr, fun h => by cases h⟩
theorem callN {W w : World} {B b : Nat} {zs : List Int} (n : Nat) (hn : 1 ≤ n) (hn' : (n : Int) ≤ 9223372036854775807) (hC : CB W B b zs w) :
    Calls Tryz.prog 14 #[.pointer (some ⟨b, 0, none⟩), .int .i64 (n : Int)] w fun e w'' => ∃ u, e = .returned u ∧ CB W B b zs w'' ∧ GB b w w'' ∧ relR (rA (isNat n)) w u w'' := by
  obtain ⟨q, hq⟩ := hC.2
  exact callB hC ((sn_nat (n : Int) (by omega) hn' B b zs q w hq).mono fun e w' ⟨m, k', he, hm, hs, hg⟩ => ⟨_, he, ⟨m, rfl, by omega⟩, ⟨k', hs⟩, hg⟩)
theorem callLit {W w : World} {B b : Nat} {zs : List Int} (n : Nat) (hn : 1 ≤ n) (hn' : n ≤ 26) (hC : CB W B b zs w) :
    Calls Tryz.prog 28 #[.pointer (some ⟨b, 0, none⟩), .int .i64 (n : Int)] w fun e w'' => ∃ u, e = .returned u ∧ CB W B b zs w'' ∧ GB b w w'' ∧ relR (rA (isLtr n)) w u w'' := by
  obtain ⟨q, hq⟩ := hC.2
  exact callB hC ((slit_any (n : Int) (by omega) (by omega) B b zs q w hq).mono fun e w' ⟨g, m, k', he, hm, hs, hg⟩ => ⟨_, he, ⟨g, m, rfl, by omega⟩, ⟨k', hs⟩, hg⟩)
theorem boxB {W w : World} {B b L : Nat} {zs : List Int} (hC : CB W B b zs w) (hL : L ≤ W.heap.size) (cs : Array Value) (t : TypeId) : CB W B b zs (w.alloc (.cells cs t)) ∧ GB b w (w.alloc (.cells cs t)) ∧ relR (rA (isBoxB L b cs t)) w (.pointer (some ⟨w.heap.size, 0, none⟩)) (w.alloc (.cells cs t)) := by
  obtain ⟨q, hq⟩ := hC.2
  exact ⟨hC.grown (bgrow w _), only_of_below (bgrow w _) _, ⟨_, rfl, Nat.le_trans hL hC.1.size, by have := hq.lt; omega, heap_alloc_new _ _⟩, fun h => by cases h⟩
theorem prB {W w : World} {B b L n m hm : Nat} {g : Bool} {nm : ByteArray} {zs : List Int} (hC : CB W B b zs w) (hL : L ≤ W.heap.size) (h1 : m < 10) (h2 : hm < n) :
    CB W B b zs (w.alloc (.cells #[.string nm, .int .i64 (m : Int), .bool g, .string (letter hm)] 78)) ∧ GB b w (w.alloc (.cells #[.string nm, .int .i64 (m : Int), .bool g, .string (letter hm)] 78)) ∧
      relR (rA (isPrB L b n nm)) w (.slice (some ⟨w.heap.size, 0, none⟩) 1 1) (w.alloc (.cells #[.string nm, .int .i64 (m : Int), .bool g, .string (letter hm)] 78)) := by
  obtain ⟨q, hq⟩ := hC.2
  exact ⟨hC.grown (bgrow w _), only_of_below (bgrow w _) _, ⟨_, m, g, hm, rfl, Nat.le_trans hL hC.1.size, by have := hq.lt; omega, h1, h2, heap_alloc_new _ _⟩, fun h => by cases h⟩
/-- What a cell of an older block holds in the class. -/
theorem CB.cell {W w : World} {B b p o : Nat} {zs : List Int} {u : Value} (hC : CB W B b zs w) (h : W.cell? ⟨p, o, none⟩ = some u) (hne : p ≠ b) : w.cell? ⟨p, o, none⟩ = some u := hC.1.cell h (fun e => hne (by injection e))
end Go.Proofs.YtfcoplplkbeljaaGreatDoor.Own
