/- The search's struct in memory; complete. -/
import Derived.Test.YtcelijjohcfhkaaDoorG0X
import Derived.Handy
namespace Go.Proofs.YtcelijjohcfhkaaDoor
set_option linter.unusedVariables false
set_option linter.unusedSimpArgs false
open Go Go.RowKit Go.Sort

/-- A row of n ints. -/
def cellsI (n : Nat) (f : Nat → Int) : Array Value := ((List.range n).map fun i => Value.int .i64 (f i)).toArray
theorem cellsI_size (n : Nat) (f : Nat → Int) : (cellsI n f).size = n := by simp [cellsI]
theorem cellsI_get {n : Nat} {f : Nat → Int} {i : Nat} (h : i < n) : (cellsI n f)[i]? = some (.int .i64 (f i)) := by simp [cellsI, h]
theorem cellsI_set (n : Nat) (f : Nat → Int) (i : Nat) (v : Int) : (cellsI n f).setIfInBounds i (.int .i64 v) = cellsI n (updI f i v) := by
  apply Array.ext_getElem?
  intro j
  rw [Array.getElem?_setIfInBounds, cellsI_size]
  by_cases hj : j < n
  · rw [cellsI_get hj, cellsI_get hj]
    unfold updI
    by_cases e : i = j
    · subst e; simp [hj]
    · rw [if_neg e, if_neg (Ne.symm e)]
  · have h1 : (cellsI n f)[j]? = none := Array.getElem?_eq_none (by rw [cellsI_size]; omega)
    have h2 : (cellsI n (updI f i v))[j]? = none := Array.getElem?_eq_none (by rw [cellsI_size]; omega)
    rw [h1, h2]
    by_cases e : i = j
    · subst e; simp [hj]
    · rw [if_neg e]
def IntsIn (w : World) (b n : Nat) (f : Nat → Int) : Prop := w.heap[b]? = some (.cells (cellsI n f) 3 (0, 0))
theorem IntsIn.cell {w : World} {b n : Nat} {f : Nat → Int} (h : IntsIn w b n f) {i : Nat} (hi : i < n) : w.cell? ⟨b, i, none⟩ = some (.int .i64 (f i)) := by
  unfold IntsIn at h
  simp [World.cell?, h, cellsI_get hi]
theorem IntsIn.set {w : World} {b n : Nat} {f : Nat → Int} (h : IntsIn w b n f) (i : Nat) (v : Int) : IntsIn (w.setCell ⟨b, i, none⟩ (.int .i64 v)) b n (updI f i v) := by
  unfold IntsIn
  rw [set_cells h, cellsI_set]

theorem elemU : ElemOf 49 54 1 8 := elem_of Tryd.underlying49 infoU9 rfl (by decide) (by decide)
/-- A list of sets that the call owns. -/
def OwnU (w : World) (B : Nat) (v : Value) (cs : List (BitVec 64)) : Prop := w.ownsRow B 54 1 v cs.length (cs.map bv)
theorem OwnU.nil (w : World) (B : Nat) : OwnU w B (.slice none 0 0) [] := World.ownsRow_nil w B _ _
theorem OwnU.go {w w' : World} {B : Nat} {v : Value} {cs : List (BitVec 64)} (h : OwnU w B v cs) (hb : Below w.heap.size w w') : OwnU w' B v cs := owns_kept h fun g e => hb.block g (owns_blk h g e).2

/-- The search in memory: W0 where it began, WB its box, ab, pb its two rows; what it appends to lies from B on. -/
structure WK (w0 : World) (WB ab pb B N : Nat) (att : Nat → BitVec 64) (wr : World) (s : St) (sv cv : Value) : Prop where
  lo : w0.heap.size ≤ WB ∧ w0.heap.size ≤ ab ∧ w0.heap.size ≤ pb
  ne : WB ≠ ab ∧ WB ≠ pb ∧ ab ≠ pb
  hi : WB < B ∧ ab < B ∧ pb < B
  box : wr.heap[WB]? = some (.cells #[.slice (some ⟨ab, 0, none⟩) N N, sv, .slice (some ⟨pb, 0, none⟩) N N, cv] 52 (0, 0))
  att : SetsAt wr ab N att
  pl : IntsIn wr pb N s.places
  stk : OwnI wr B sv (ints s.stack)
  cmp : OwnU wr B cv s.comps
  apart : ∀ g, sv.ownBlock = some g → cv.ownBlock ≠ some g
  bel : Below w0.heap.size w0 wr
  big : B ≤ wr.heap.size
theorem WK.go {w0 wr w' : World} {WB ab pb B N : Nat} {att : Nat → BitVec 64} {s : St} {sv cv : Value} (h : WK w0 WB ab pb B N att wr s sv cv) (hb : Below wr.heap.size wr w') : WK w0 WB ab pb B N att w' s sv cv :=
  ⟨h.lo, h.ne, h.hi, blk_kept2 h.box hb, h.att.go hb, blk_kept2 h.pl hb, h.stk.go hb, h.cmp.go hb, h.apart, h.bel.trans (Below.mono hb h.bel.size), Nat.le_trans h.big hb.size⟩
theorem four0 {w : World} {b : Nat} {u0 u1 u2 u3 : Value} {t : TypeId} (h : w.heap[b]? = some (.cells #[u0, u1, u2, u3] t (0, 0))) : w.cell? ⟨b, 0, none⟩ = some u0 ∧ w.cell? ⟨b, 1, none⟩ = some u1 ∧ w.cell? ⟨b, 2, none⟩ = some u2 ∧ w.cell? ⟨b, 3, none⟩ = some u3 := by
  simp [World.cell?, h]
/-- One place is written. -/
theorem WK.place {w0 wr : World} {WB ab pb B N : Nat} {att : Nat → BitVec 64} {s : St} {sv cv : Value} (h : WK w0 WB ab pb B N att wr s sv cv) (i : Nat) (v : Int) :
    WK w0 WB ab pb B N att (wr.setCell ⟨pb, i, none⟩ (.int .i64 v)) ⟨s.stack, updI s.places i v, s.comps⟩ sv cv := by
  have hlo := h.lo; have hne := h.ne; have hhi := h.hi
  have hk : ∀ g, g ≠ pb → (wr.setCell ⟨pb, i, none⟩ (.int .i64 v)).heap[g]? = wr.heap[g]? := fun g hg => Below.heap_setCell wr ⟨pb, i, none⟩ _ g hg
  refine ⟨h.lo, h.ne, h.hi, ?_, ?_, h.pl.set i v, owns_kept h.stk fun g e => hk g ?_, owns_kept h.cmp fun g e => hk g ?_, h.apart, below_set5 h.bel hlo.2.2, by rw [size_setCell9]; exact h.big⟩
  · rw [hk WB hne.2.1]; exact h.box
  · unfold SetsAt; rw [hk ab hne.2.2]; exact h.att
  · have := (owns_blk h.stk g e).1; omega
  · have := (owns_blk h.cmp g e).1; omega
/-- Something has been appended to the stack. -/
theorem WK.push {w0 wr w8 : World} {WB ab pb B N : Nat} {att : Nat → BitVec 64} {s : St} {sv cv sv8 : Value} {i : Nat} (h : WK w0 WB ab pb B N att wr s sv cv) (hown : w8.ownsRow B 3 1 sv8 (s.stack.length + 1) ((ints s.stack).map (Value.int .i64) ++ [.int .i64 (i : Int)])) (hg : wr.grownBy w8 sv.ownBlock) (hbl : sv8.ownBlock = sv.ownBlock ∨ sv8.ownBlock = some wr.heap.size) :
    WK w0 WB ab pb B N att (w8.setCell ⟨WB, 1, none⟩ sv8) ⟨s.stack ++ [i], s.places, s.comps⟩ sv8 cv := by
  have hlo := h.lo; have hne := h.ne; have hhi := h.hi
  have hOB : ∀ g, sv.ownBlock = some g → B ≤ g := fun g e => (owns_blk h.stk g e).1
  have hk : ∀ g, g ≠ WB → g < wr.heap.size → sv.ownBlock ≠ some g → (w8.setCell ⟨WB, 1, none⟩ sv8).heap[g]? = wr.heap[g]? := fun g h1 h2 h3 => (Below.heap_setCell w8 ⟨WB, 1, none⟩ _ g h1).trans (hg.block g h2 (fun e => h3 e.symm))
  have hO : OwnI w8 B sv8 (ints (s.stack ++ [i])) := by
    unfold OwnI ints at *
    simp only [List.length_map, List.length_append, List.map_append, List.length_cons, List.length_nil] at *
    exact hown
  have hnot : ∀ g, g < B → sv.ownBlock ≠ some g := fun g hg e => by have := hOB g e; omega
  refine ⟨h.lo, h.ne, h.hi, ?_, ?_, ?_, owns_kept hO fun g e => Below.heap_setCell w8 ⟨WB, 1, none⟩ _ g ?_, owns_kept h.cmp fun g e => hk g ?_ (owns_blk h.cmp g e).2 (fun e2 => h.apart g e2 e), fun g e e2 => ?_, below_set5 (below_app5 h.bel hg (fun g e => by have := hOB g e; omega) h.bel.size) hlo.1, ?_⟩
  · have hb := (hg.block WB (lt_of_block h.box) (fun e => hnot WB hhi.1 e.symm)).trans h.box
    have := set_cells (i := 1) (u := sv8) hb
    simpa using this
  · unfold SetsAt; rw [hk ab (Ne.symm hne.1) (lt_of_block h.att) (hnot ab hhi.2.1)]; exact h.att
  · unfold IntsIn; rw [hk pb (Ne.symm hne.2.1) (lt_of_block h.pl) (hnot pb hhi.2.2)]; exact h.pl
  · have := (owns_blk hO g e).1
    show g ≠ WB
    omega
  · have := (owns_blk h.cmp g e).1
    omega
  · rcases hbl with hb | hb
    · exact h.apart g (by rw [← hb]; exact e) e2
    · rw [hb] at e
      injection e with e
      have := (owns_blk h.cmp g e2).2
      omega
  · rw [size_setCell9]; exact Nat.le_trans h.big hg.size
/-- A component has been appended. -/
theorem WK.comp {w0 wr w8 : World} {WB ab pb B N : Nat} {att : Nat → BitVec 64} {s : St} {sv cv cv8 : Value} {C : BitVec 64} (h : WK w0 WB ab pb B N att wr s sv cv) (hown : w8.ownsRow B 54 1 cv8 (s.comps.length + 1) (s.comps.map bv ++ [bv C])) (hg : wr.grownBy w8 cv.ownBlock) (hbl : cv8.ownBlock = cv.ownBlock ∨ cv8.ownBlock = some wr.heap.size) :
    WK w0 WB ab pb B N att (w8.setCell ⟨WB, 3, none⟩ cv8) ⟨s.stack, s.places, s.comps ++ [C]⟩ sv cv8 := by
  have hlo := h.lo; have hne := h.ne; have hhi := h.hi
  have hOB : ∀ g, cv.ownBlock = some g → B ≤ g := fun g e => (owns_blk h.cmp g e).1
  have hk : ∀ g, g ≠ WB → g < wr.heap.size → cv.ownBlock ≠ some g → (w8.setCell ⟨WB, 3, none⟩ cv8).heap[g]? = wr.heap[g]? := fun g h1 h2 h3 => (Below.heap_setCell w8 ⟨WB, 3, none⟩ _ g h1).trans (hg.block g h2 (fun e => h3 e.symm))
  have hO : OwnU w8 B cv8 (s.comps ++ [C]) := by
    unfold OwnU at *
    simp only [List.length_append, List.map_append, List.length_cons, List.length_nil] at *
    exact hown
  have hnot : ∀ g, g < B → cv.ownBlock ≠ some g := fun g hg e => by have := hOB g e; omega
  refine ⟨h.lo, h.ne, h.hi, ?_, ?_, ?_, owns_kept h.stk fun g e => hk g ?_ (owns_blk h.stk g e).2 (h.apart g e), owns_kept hO fun g e => Below.heap_setCell w8 ⟨WB, 3, none⟩ _ g ?_, fun g e e2 => ?_, below_set5 (below_app5 h.bel hg (fun g e => by have := hOB g e; omega) h.bel.size) hlo.1, ?_⟩
  · have hb := (hg.block WB (lt_of_block h.box) (fun e => hnot WB hhi.1 e.symm)).trans h.box
    have := set_cells (i := 3) (u := cv8) hb
    simpa using this
  · unfold SetsAt; rw [hk ab (Ne.symm hne.1) (lt_of_block h.att) (hnot ab hhi.2.1)]; exact h.att
  · unfold IntsIn; rw [hk pb (Ne.symm hne.2.1) (lt_of_block h.pl) (hnot pb hhi.2.2)]; exact h.pl
  · have := (owns_blk h.stk g e).1
    omega
  · have := (owns_blk hO g e).1
    show g ≠ WB
    omega
  · rcases hbl with hb | hb
    · exact h.apart g e (by rw [← hb]; exact e2)
    · rw [hb] at e2
      injection e2 with e2
      have := (owns_blk h.stk g e).2
      omega
  · rw [size_setCell9]; exact Nat.le_trans h.big hg.size
/-- The stack has been cut. -/
theorem own_cut {w : World} {B : Nat} {g m n cap : Nat} {xs : List Int} (h : OwnI w B (.slice (some ⟨g, 0, none⟩) n cap) xs) (hm : m ≤ n) : OwnI w B (.slice (some ⟨g, 0, none⟩) m cap) (xs.take m) := by
  have hn : n = xs.length := by
    rcases h.2 with ⟨e, -⟩ | ⟨g', cap', cur, e, -⟩
    · cases e
    · injection e
  subst hn
  obtain ⟨h1, h2⟩ := h
  rcases h2 with ⟨e, -⟩ | ⟨g', cap', cur, e, hB, hg, hnc, hcm, hcs, ht⟩
  · cases e
  · injection e with e1 e2 e3
    injection e1 with e1
    injection e1 with e1
    subst e1 e3
    have hl : (xs.take m).length = m := by rw [List.length_take]; omega
    refine ⟨by rw [hl, List.length_map, hl, Nat.mul_one], .inr ⟨g, cap, cur, by rw [hl], hB, hg, by omega, hcm, hcs, ?_⟩⟩
    rw [hl]
    simp only [Nat.mul_one] at *
    rw [List.map_take, ← ht, List.take_take, show min m xs.length = m by omega]
theorem WK.cut {w0 wr : World} {WB ab pb B N : Nat} {att : Nat → BitVec 64} {s : St} {g n cap m : Nat} {cv : Value} (h : WK w0 WB ab pb B N att wr s (.slice (some ⟨g, 0, none⟩) n cap) cv) (hm : m ≤ n) :
    WK w0 WB ab pb B N att (wr.setCell ⟨WB, 1, none⟩ (.slice (some ⟨g, 0, none⟩) m cap)) ⟨s.stack.take m, s.places, s.comps⟩ (.slice (some ⟨g, 0, none⟩) m cap) cv := by
  have hlo := h.lo; have hne := h.ne; have hhi := h.hi
  have hk : ∀ b, b ≠ WB → (wr.setCell ⟨WB, 1, none⟩ (.slice (some ⟨g, 0, none⟩) m cap)).heap[b]? = wr.heap[b]? := fun b hb => Below.heap_setCell wr ⟨WB, 1, none⟩ _ b hb
  have hO : OwnI wr B (.slice (some ⟨g, 0, none⟩) m cap) (ints (s.stack.take m)) := by
    have := own_cut h.stk hm
    unfold ints at *
    rw [List.map_take]
    exact this
  refine ⟨h.lo, h.ne, h.hi, ?_, ?_, ?_, owns_kept hO fun b e => hk b ?_, owns_kept h.cmp fun b e => hk b ?_, fun b e e2 => h.apart b e e2, below_set5 h.bel hlo.1, by rw [size_setCell9]; exact h.big⟩
  · have := set_cells (i := 1) (u := .slice (some ⟨g, 0, none⟩) m cap) h.box
    simpa using this
  · unfold SetsAt; rw [hk ab (Ne.symm hne.1)]; exact h.att
  · unfold IntsIn; rw [hk pb (Ne.symm hne.2.1)]; exact h.pl
  · have := (owns_blk hO b e).1; omega
  · have := (owns_blk h.cmp b e).1; omega

/-- What the search's calls leave alone, and where their lists lie. -/
structure Fr (WB pb : Nat) (w w' : World) (sv cv sv' cv' : Value) : Prop where
  size : w.heap.size ≤ w'.heap.size
  kept : ∀ b, b < w.heap.size → b ≠ WB → b ≠ pb → sv.ownBlock ≠ some b → cv.ownBlock ≠ some b → w'.heap[b]? = w.heap[b]?
  sb : ∀ b, sv'.ownBlock = some b → sv.ownBlock = some b ∨ w.heap.size ≤ b
  cb : ∀ b, cv'.ownBlock = some b → cv.ownBlock = some b ∨ w.heap.size ≤ b
theorem Fr.refl (WB pb : Nat) (w : World) (sv cv : Value) : Fr WB pb w w sv cv sv cv := ⟨Nat.le_refl _, fun _ _ _ _ _ _ => rfl, fun _ h => .inl h, fun _ h => .inl h⟩
theorem Fr.trans {WB pb : Nat} {w w' w'' : World} {sv cv sv' cv' sv'' cv'' : Value} (h : Fr WB pb w w' sv cv sv' cv') (k : Fr WB pb w' w'' sv' cv' sv'' cv'') : Fr WB pb w w'' sv cv sv'' cv'' := by
  refine ⟨Nat.le_trans h.size k.size, fun b h1 h2 h3 h4 h5 => (k.kept b (Nat.lt_of_lt_of_le h1 h.size) h2 h3 (fun e => ?_) (fun e => ?_)).trans (h.kept b h1 h2 h3 h4 h5), fun b e => ?_, fun b e => ?_⟩
  · rcases h.sb b e with e2 | e2
    · exact h4 e2
    · omega
  · rcases h.cb b e with e2 | e2
    · exact h5 e2
    · omega
  · rcases k.sb b e with e2 | e2
    · exact h.sb b e2
    · exact .inr (Nat.le_trans h.size e2)
  · rcases k.cb b e with e2 | e2
    · exact h.cb b e2
    · exact .inr (Nat.le_trans h.size e2)
theorem Fr.below {WB pb : Nat} {w w' w'' : World} {sv cv sv' cv' : Value} (h : Fr WB pb w w' sv cv sv' cv') (hb : Below w'.heap.size w' w'') : Fr WB pb w w'' sv cv sv' cv' :=
  h.trans ⟨hb.size, fun b h1 _ _ _ _ => hb.block b h1, fun _ e => .inl e, fun _ e => .inl e⟩
theorem Fr.place {WB pb : Nat} {w w' : World} {sv cv sv' cv' : Value} (h : Fr WB pb w w' sv cv sv' cv') (i : Nat) (u : Value) : Fr WB pb w (w'.setCell ⟨pb, i, none⟩ u) sv cv sv' cv' :=
  h.trans ⟨by rw [size_setCell9]; exact Nat.le_refl _, fun b _ _ h3 _ _ => Below.heap_setCell w' ⟨pb, i, none⟩ u b h3, fun _ e => .inl e, fun _ e => .inl e⟩
theorem Fr.box {WB pb : Nat} {w w' : World} {sv cv sv' cv' : Value} (h : Fr WB pb w w' sv cv sv' cv') (i : Nat) (u : Value) : Fr WB pb w (w'.setCell ⟨WB, i, none⟩ u) sv cv sv' cv' :=
  h.trans ⟨by rw [size_setCell9]; exact Nat.le_refl _, fun b _ h2 _ _ _ => Below.heap_setCell w' ⟨WB, i, none⟩ u b h2, fun _ e => .inl e, fun _ e => .inl e⟩
theorem Fr.push {WB pb : Nat} {w w' w8 : World} {sv cv sv' cv' sv8 : Value} (h : Fr WB pb w w' sv cv sv' cv') (hg : w'.grownBy w8 sv'.ownBlock) (hbl : sv8.ownBlock = sv'.ownBlock ∨ sv8.ownBlock = some w'.heap.size) : Fr WB pb w w8 sv cv sv8 cv' :=
  h.trans ⟨hg.size, fun b h1 _ _ h4 _ => hg.block b h1 (fun e => h4 e.symm), fun b e => by
    rcases hbl with hb | hb
    · exact .inl (by rw [← hb]; exact e)
    · rw [hb] at e; injection e with e; exact .inr (by omega), fun _ e => .inl e⟩
theorem Fr.comp {WB pb : Nat} {w w' w8 : World} {sv cv sv' cv' cv8 : Value} (h : Fr WB pb w w' sv cv sv' cv') (hg : w'.grownBy w8 cv'.ownBlock) (hbl : cv8.ownBlock = cv'.ownBlock ∨ cv8.ownBlock = some w'.heap.size) : Fr WB pb w w8 sv cv sv' cv8 :=
  h.trans ⟨hg.size, fun b h1 _ _ _ h5 => hg.block b h1 (fun e => h5 e.symm), fun _ e => .inl e, fun b e => by
    rcases hbl with hb | hb
    · exact .inl (by rw [← hb]; exact e)
    · rw [hb] at e; injection e with e; exact .inr (by omega)⟩
theorem Fr.stk {WB pb : Nat} {w w' : World} {sv cv sv' cv' sv2 : Value} (h : Fr WB pb w w' sv cv sv' cv') (e : sv2.ownBlock = sv'.ownBlock) : Fr WB pb w w' sv cv sv2 cv' := ⟨h.size, h.kept, fun b eb => h.sb b (by rw [← e]; exact eb), h.cb⟩

theorem setOf_step {l : List Nat} {k : Nat} (h : k < l.length) : setOf (l.take (k + 1)) = setOf (l.take k) ||| oneB l[k] := by
  unfold setOf
  rw [List.take_succ_eq_append_getElem h, List.foldl_append]
  rfl
theorem doneAt_step {f : Nat → Int} {l : List Nat} {k : Nat} (h : k < l.length) : updI (doneAt f (l.take k)) l[k] 41 = doneAt f (l.take (k + 1)) := by
  funext j
  unfold updI doneAt
  rw [List.take_succ_eq_append_getElem h]
  by_cases e : j = l[k]
  · rw [if_pos e, if_pos (List.mem_append_right _ (by rw [e]; exact List.mem_singleton.2 rfl))]
  · rw [if_neg e]
    by_cases h1 : j ∈ l.take k
    · rw [if_pos h1, if_pos (List.mem_append_left _ h1)]
    · rw [if_neg h1, if_neg]
      intro h2
      rcases List.mem_append.1 h2 with h3 | h3
      · exact h1 h3
      · exact e (List.mem_singleton.1 h3)

set_option maxRecDepth 100000 in
set_option maxHeartbeats 4000000 in
theorem complete_any (w0 : World) (WB ab pb B N : Nat) (att : Nat → BitVec 64) (s : St) (sv cv : Value) (own : Nat) (w : World) (hW : WK w0 WB ab pb B N att w s sv cv) (hwf : WF N s) (hN : N ≤ 40) (h1 : 1 ≤ own) (h2 : own ≤ s.stack.length) :
    Calls Tryd.prog 44 #[.pointer (some ⟨WB, 0, none⟩), .int .i64 (own : Int)] w fun e w' => e = .returned (.tuple #[]) ∧ ∃ sv' cv', WK w0 WB ab pb B N att w' (completeF own s) sv' cv' ∧ Fr WB pb w w' sv cv sv' cv' := by
  have HWF := hidIt hwf
  have HOE : Hid (completeF own s = ⟨s.stack.take (own - 1), doneAt s.places (s.stack.drop (own - 1)), s.comps ++ [setOf (s.stack.drop (own - 1))]⟩) := (rfl : _ = _)
  obtain ⟨g, cap, hsv, hgB, hcap1, hcap2⟩ : ∃ g cap : Nat, sv = .slice (some ⟨g, 0, none⟩) s.stack.length cap ∧ B ≤ g ∧ s.stack.length ≤ cap ∧ cap ≤ maxLen := by
    rcases hW.stk.2 with ⟨-, e⟩ | ⟨g, cap, cur, hv, hB, hg, hnc, hcm, -⟩
    · rw [ints_len] at e; omega
    · rw [ints_len] at hv hnc
      exact ⟨g, cap, hv, hB, hnc, hcm⟩
  subst hsv
  have hcs : ∀ j (hj : j < s.stack.length), w.cell? ⟨g, j, none⟩ = some (.int .i64 ((s.stack[j] : Nat) : Int)) := fun j hj => by
    have := owns_cell hW.stk rfl j (.int .i64 ((s.stack[j] : Nat) : Int)) (by unfold ints; simp [hj])
    exact this
  have HCS := hidIt hcs
  have hstl : s.stack.length ≤ N := by have := hwf.sum; omega
  have HW := hidIt hW
  obtain ⟨L, hL⟩ : ∃ L, L = s.stack.length := ⟨_, rfl⟩
  have HL := hidIt hL
  rw [← hL] at HW h2 hstl hcap1
  clear hW hwf hcs hL
  obtain ⟨o, rfl⟩ : ∃ o, own = o + 1 := ⟨own - 1, by omega⟩
  rw [Nat.add_sub_cancel] at HOE
  obtain ⟨D, hD⟩ : ∃ D, D = s.stack.drop o := ⟨_, rfl⟩
  have HD := hidIt hD
  rw [← hD] at HOE
  have HDL : Hid (D.length = L - o) := by show _ = _; rw [hD, List.length_drop, HL.out]
  have HDG : Hid (∀ j (hj : j < D.length), ∃ h : o + j < s.stack.length, D[j] = s.stack[o + j]) := fun j hj => by
    subst hD
    rw [List.length_drop] at hj
    exact ⟨by omega, List.getElem_drop⟩
  clear hD
  have hwo : IntKind.i64.wrap (((o + 1 : Nat) : Int) - 1) = (o : Int) := by rw [IntWalk.i64_in _ (by omega)]; omega
  obtain ⟨x0, x1, x2, x3⟩ := four0 HW.out.box
  have lx := lt_of_block HW.out.box
  have ho1 : (o : Int) ≤ (L : Int) := by omega
  have ho0 : (0 : Int) ≤ (o : Int) := by omega
  have hoc : o ≠ cap := by omega
  go_enter Tryd.func44, Tryd.ntmps44
  go_wp2_with fail
  obtain ⟨K, hK⟩ : ∃ K, K = L - o := ⟨_, rfl⟩
  have HK := hidIt hK
  rw [← hK] at HDL ⊢
  clear hK x0 x1 x2 x3 lx
  have hKL : K + o = L := by have := HK.out; omega
  go_loopw [4, 6, 15] (fun v4 _ vj wr => ∃ j : Nat, v4 = bv (setOf (D.take j)) ∧ vj = .int .i64 (j : Int) ∧ j ≤ K ∧ Hid (WK w0 WB ab pb B N att wr ⟨s.stack, doneAt s.places (D.take j), s.comps⟩ (.slice (some ⟨g, 0, none⟩) L cap) cv) ∧ Hid (Fr WB pb w wr (.slice (some ⟨g, 0, none⟩) L cap) cv (.slice (some ⟨g, 0, none⟩) L cap) cv)) (fun _ _ vj _ => K - (intOf vj).toNat)
  case atStart => exact ⟨0, (by first | rfl | trivial), (by first | rfl | trivial), Nat.zero_le _, (by
    have e : doneAt s.places (D.take 0) = s.places := by funext k; unfold doneAt; simp
    show WK _ _ _ _ _ _ _ _ _ _ _
    rw [e]
    exact HW.out), Fr.refl _ _ _ _ _⟩
  case round =>
    clear HW
    obtain ⟨j, rfl, rfl, hj, HW, HFR⟩ := hrel
    have hjI0 : (0 : Int) ≤ (j : Int) := by omega
    obtain ⟨x0, x1, x2, x3⟩ := four0 HW.out.box
    have lx := lt_of_block HW.out.box
    by_cases hlt : j < K
    · have hjI : (j : Int) < (K : Int) := by omega
      have hjD : j < D.length := by rw [HDL.out]; exact hlt
      obtain ⟨hoj, hd⟩ := HDG.out j hjD
      have hc : wr.cell? ⟨g, o + j, none⟩ = some (.int .i64 ((D[j] : Nat) : Int)) := by
        rw [hd]
        exact owns_cell HW.out.stk rfl (o + j) (.int .i64 ((s.stack[o + j] : Nat) : Int)) (by unfold ints; simp [hoj])
      have hxN : D[j] < N := by rw [hd]; exact HWF.out.nodes _ (List.getElem_mem _)
      have lg := World.block_lt_of_cell? wr ⟨g, o + j, none⟩ hc
      have hSS : Hid (setOf (D.take (j + 1)) = setOf (D.take j) ||| oneB D[j]) := setOf_step hjD
      have hDS : Hid (updI (doneAt s.places (D.take j)) D[j] 41 = doneAt s.places (D.take (j + 1))) := doneAt_step hjD
      clear hd
      generalize D[j] = x at *
      have hx64 : x < 64 := by omega
      have HOR := hidIt (or_one (setOf (D.take j)) hx64)
      have HW2 : Hid (WK w0 WB ab pb B N att (wr.setCell ⟨pb, x, none⟩ (.int .i64 41)) ⟨s.stack, doneAt s.places (D.take (j + 1)), s.comps⟩ (.slice (some ⟨g, 0, none⟩) L cap) cv) := by
        have := HW.out.place x 41
        rw [hDS.out] at this
        exact this
      have HFR2 := hidIt (HFR.out.place x (.int .i64 41))
      have q0 := HW.out.pl.cell hxN
      have fq := free_any HW.out.pl x
      have lq := lt_of_block HW.out.pl
      have hx0 : (0 : Int) ≤ (x : Int) := by omega
      have hxI : (x : Int) < (N : Int) := by omega
      go_wp2_with fail
      rw [HOR.out]
      go_roundw
      case rel => exact ⟨j + 1, (by rw [hSS.out]), by go_num, by omega, HW2.out, HFR2.out⟩
      case measure => simp [intOf]; omega
    · have hjI : ¬ (j : Int) < (K : Int) := by omega
      have HDT : Hid (D.take j = D) := List.take_of_length_le (by rw [HDL.out]; omega)
      rw [HDT.out] at HW ⊢
      generalize hC : setOf D = C at *
      have HWc := hidIt (HW.out.cut (m := o) (by omega))
      have HFRc : Hid (Fr WB pb w (wr.setCell ⟨WB, 1, none⟩ (.slice (some ⟨g, 0, none⟩) o cap)) (.slice (some ⟨g, 0, none⟩) L cap) cv (.slice (some ⟨g, 0, none⟩) o cap) cv) := (HFR.out.box 1 _).stk rfl
      have f1 := free_any HW.out.box 1
      obtain ⟨y0, y1, y2, y3⟩ := four0 HWc.out.box
      have ly := lt_of_block HWc.out.box
      have f3 := free_any HWc.out.box 3
      have hoc1 : o ≤ cap := by omega
      obtain ⟨ca, cc, rfl, hcc1, hcc2⟩ := shape_own HWc.out.cmp
      go_upto_region 8 with (fail)
      generalize wr.setCell ⟨WB, 1, none⟩ (.slice (some ⟨g, 0, none⟩) o cap) = w3 at *
      clear x0 x1 x2 x3 lx f1 HW
      have hg4 := bgrow w3 (.cells #[bv C] 54)
      have HW4 := hidIt (HWc.out.go hg4)
      have HFR4 := hidIt (HFRc.out.below hg4)
      have hbig := HW4.out.big
      have hcl : s.comps.length ≤ N := by have := HWF.out.sum; omega
      have HO4 : Hid (World.ownsRow (w3.alloc (.cells #[bv C] 54)) B 54 1 (.slice ca s.comps.length cc) s.comps.length (s.comps.map bv)) := HW4.out.cmp
      clear hg4
      go_wp2_with (at_builtin; refine Hid.out ?_)
      refine hidIt ?_
      refine wpList_append_kb rfl _ _ elemU rfl B (.slice ca s.comps.length cc) s.comps.length _ rfl HO4.out _ 1 rfl #[bv C] 54 (heap_alloc_new _ _) rfl (one_of (by rfl)) (by omega) hbig ?_
      intro g8 c8 w8 hown8 hg8 hbl8
      have HWn := hidIt (HW4.out.comp (C := C) hown8 hg8 hbl8)
      have HFRn := hidIt ((HFR4.out.comp hg8 hbl8).box 3 (.slice (some ⟨g8, 0, none⟩) (s.comps.length + 1) c8))
      have hb8 := (hg8.block WB (lt_of_block HW4.out.box) (fun e => by have := (owns_blk HO4.out _ e.symm).1; have := HW4.out.hi.1; omega)).trans HW4.out.box
      obtain ⟨k0, k1, k2, k3⟩ := four0 hb8
      have lk := lt_of_block hb8
      have fk := free_any hb8 3
      clear hown8 hg8 hbl8 HO4 hb8 y0 y1 y2 y3 ly f3
      go_wp2_with fail
      go_returns
      rw [HOE.out]
      rw [← HL.out]
      exact ⟨rfl, _, _, HWn.out, HFRn.out⟩
end Go.Proofs.YtcelijjohcfhkaaDoor
