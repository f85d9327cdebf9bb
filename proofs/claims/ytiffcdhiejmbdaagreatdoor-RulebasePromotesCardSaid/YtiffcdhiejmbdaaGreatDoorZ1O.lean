/- append to an empty row of one's own only makes memory; rows after a store (for keep.SpoiltBase). keep.SpoiltBase under way: rules after a store, rows after an append. keep.SpoiltBase under way: a promotion, a rule appended; what is left at its end. keep.SpoiltBase under way: relations for its last regions, and its end. -/
import Derived.Test.YtiffcdhiejmbdaaGreatDoorZ1K5e

namespace Go.Proofs.YtiffcdhiejmbdaaGreatDoor
set_option linter.unusedVariables false
set_option linter.unusedSimpArgs false
open Go Go.RowKit

/-- append to an empty row without room: memory is made, nothing else. -/
theorem run_append0 {w : World} {T e : TypeId} {k by' : Nat} (hE : ElemOf T e k by') (ty : TypeId) (B g : Nat) (hg : w.heap[g]? = some (.cells #[] e (0, 0))) (hBg : B ≤ g) (a : Addr) (m c : Nat) (news : List Value) (hl : news.length = m * k)
    (hnews : ∀ j u, news[j]? = some u → w.cell? (a.add j) = some u) (h1 : ∀ u ∈ news, u.oneCell' = true) (hm : m ≤ 1000000) :
    ∃ v' w', (Builtin.append_ #[T, T] ty #[.slice (some ⟨g, 0, none⟩) 0 0, .slice (some a) m c]).run Tryz.prog w = .ok v' w' ∧ w'.ownsRow B e k v' m news ∧ Below w.heap.size w w' := by
  obtain ⟨i, z, hi, hz, hk, hb, hzc⟩ := hE.info
  have hsm := hE.small
  subst hk hb
  have hgl := lt_of_block hg
  have hby : (0 + m) * i.bytes ≤ 140737488355328 := Nat.le_trans (Nat.mul_le_mul (show 0 + m ≤ 1000001 by omega) hsm) (by decide)
  have hown : w.ownsRow B e i.size (.slice (some ⟨g, 0, none⟩) 0 0) 0 [] := ⟨by simp, .inr ⟨g, 0, #[], rfl, hBg, hg, Nat.le_refl _, Nat.zero_le _, by simp, by simp⟩⟩
  obtain ⟨v', w', hr, h2, h3, h4⟩ := run_append_own (P := Tryz.prog) w B T ty e i z i.size i.bytes hE.und hi hz rfl rfl hzc hE.pos _ 0 [] hown a m c news hl hnews h1 (by unfold maxLen; omega) hby (by omega)
  refine ⟨v', w', hr, by simpa using h2, ?_⟩
  by_cases hm0 : m = 0
  · subst hm0
    have hn : news = [] := List.eq_nil_of_length_eq_zero (by simpa using hl)
    subst hn
    have hr2 := run_append_room (P := Tryz.prog) w T ty e i hE.und hi g 0 0 #[] hg a 0 c [] hl hnews h1 (Nat.le_refl _) (by simp)
    rw [hr2] at hr
    injection hr with _ hw
    rw [← hw]
    refine ⟨rfl, rfl, rfl, by simp [World.setRow], fun j hj => ?_⟩
    by_cases hjg : j = g
    · subst hjg
      rw [setRow_heap w j #[] _ e _ hg, hg]
      simp
    · exact setRow_other w g j _ hjg
  · have hr2 := run_append_grow (P := Tryz.prog) w T ty e i z hE.und hi hz ⟨g, 0, none⟩ 0 0 [] (by simp) (fun j v hj => by simp at hj) a m c news hl hnews (by omega) (by omega) (growslice_fits (by omega) hby)
    rw [hr2] at hr
    injection hr with _ hw
    rw [← hw]
    exact ⟨rfl, rfl, rfl, by simp, fun j hj => heap_alloc_old w.drew _ hj⟩

theorem flat_put {α : Type} (enc : α → List Value) (k : Nat) (hk : ∀ x, (enc x).length = k) (u : Value) (y : α) : ∀ (xs : List α) (i j : Nat) (h : i < xs.length), j < k → enc y = (enc xs[i]).set j u → (xs.flatMap enc).set (i * k + j) u = (xs.set i y).flatMap enc
  | [], i, j, h, _, _ => by simp at h
  | x :: r, 0, j, h, hj, hy => by
    rw [List.flatMap_cons, Nat.zero_mul, Nat.zero_add, List.set_append_left _ _ (by rw [hk]; exact hj), List.set_cons_zero, List.flatMap_cons, hy]
    rfl
  | x :: r, i + 1, j, h, hj, hy => by
    have ih := flat_put enc k hk u y r i j (by simpa using h) hj hy
    rw [List.flatMap_cons, List.set_append_right _ _ (by rw [hk, Nat.add_mul]; omega), hk, show (i + 1) * k + j - k = i * k + j by rw [Nat.add_mul]; omega, ih, List.set_cons_succ, List.flatMap_cons]

/-- The block of an owned row is of its elements' type. -/
theorem owns_tag {w : World} {B : Nat} {e : TypeId} {k : Nat} {v : Value} {n : Nat} {xs : List Value} (h : w.ownsRow B e k v n xs) {g : Nat} (hg : v.ownBlock = some g) : ∃ cur, w.heap[g]? = some (.cells cur e (0, 0)) := by
  rcases h.2 with ⟨rfl, -⟩ | ⟨g', cap, cur, rfl, -, h2, -⟩
  · cases hg
  · injection hg with hg
    subst hg
    exact ⟨cur, h2⟩
theorem tag_ne {w : World} {g g' : Nat} {cs cs' : Array Value} {e e' : TypeId} (h : w.heap[g]? = some (.cells cs e (0, 0))) (h' : w.heap[g']? = some (.cells cs' e' (0, 0))) (hne : e ≠ e') : g ≠ g' := fun he => by
  subst he
  rw [h] at h'
  injection h' with h'
  injection h' with _ h'
  exact hne h'

/-- keep.SpoiltBase under way: the result's box, the copy's box at R, the copy's rows, its bodies in blocks of their own, the reader. -/
structure Sp (w : World) (B b : Nat) (zs : List Int) (R : Nat) (wr : World) (q : Nat) (bs : Bs) (pv rv qv : Value) (vs : List Value) : Prop where
  box : wr.heap[R]? = some (.cells #[pv, rv, qv] 26 (0, 0))
  res : wr.heap[w.heap.size + 1]? = some (.cells #[.slice none 0 0, .slice none 0 0, .slice none 0 0] 26 (0, 0))
  lo : w.heap.size + 2 ≤ R
  p5 : OwnPm wr (w.heap.size + 2) pv bs.prems
  q5 : OwnPr wr (w.heap.size + 2) qv bs.proms
  len : vs.length = bs.rules.length
  r5 : wr.ownsRow (w.heap.size + 2) 72 6 rv bs.rules.length ((bs.rules.zip vs).flatMap fun x => encRu x.1 x.2)
  bod : ∀ i (h : i < bs.rules.length) (h' : i < vs.length), OwnL wr (w.heap.size + 2) vs[i] bs.rules[i].body
  apart : ∀ i j (hi : i < vs.length) (hj : j < vs.length), i ≠ j → ∀ g, vs[i].ownBlock = some g → vs[j].ownBlock ≠ some g
  src : SrcAt wr B b zs q
  gr : w.grownBy wr (some b)
  lt : b < w.heap.size

section
variable {w wr w' : World} {B b R q q' : Nat} {zs : List Int} {bs : Bs} {pv rv qv : Value} {vs : List Value}
theorem Sp.size (h : Sp w B b zs R wr q bs pv rv qv vs) : w.heap.size + 2 ≤ wr.heap.size := by have := lt_of_block h.box; have := h.lo; omega
/-- A call that reads numbers. -/
theorem Sp.call (h : Sp w B b zs R wr q bs pv rv qv vs) (hs : SrcAt w' B b zs q') (hg : wr.grownBy w' (some b)) : Sp w B b zs R w' q' bs pv rv qv vs := by
  have hl := h.lt
  have hlo := h.lo
  have hR := lt_of_block h.box
  have hk : ∀ k, w.heap.size ≤ k → k < wr.heap.size → w'.heap[k]? = wr.heap[k]? := fun k h1 h2 => hg.block k h2 (fun e => by injection e with e; omega)
  exact ⟨(hk R (by omega) hR).trans h.box, (hk (w.heap.size + 1) (by omega) (by omega)).trans h.res, h.lo, owns_kept h.p5 fun g e => hk g (by have := (owns_blk h.p5 g e).1; omega) (owns_blk h.p5 g e).2, owns_kept h.q5 fun g e => hk g (by have := (owns_blk h.q5 g e).1; omega) (owns_blk h.q5 g e).2, h.len,
    owns_kept h.r5 fun g e => hk g (by have := (owns_blk h.r5 g e).1; omega) (owns_blk h.r5 g e).2, fun i hi hi' => owns_kept (h.bod i hi hi') fun g e => hk g (by have := (owns_blk (h.bod i hi hi') g e).1; omega) (owns_blk (h.bod i hi hi') g e).2, h.apart, hs, only_trans h.gr hg, h.lt⟩
theorem Sp.more (h : Sp w B b zs R wr q bs pv rv qv vs) (hb : Below wr.heap.size wr w') : Sp w B b zs R w' q bs pv rv qv vs := h.call (h.src.grow (only_of_below hb none)) (only_of_below hb _)
theorem Sp.base_le (h : Sp w B b zs R wr q bs pv rv qv vs) : B ≤ b := h.src.base

theorem Sp.setP (h : Sp w B b zs R wr q bs pv rv qv vs) {g c : Nat} (hv : pv = .slice (some ⟨g, 0, none⟩) bs.prems.length c) {i j : Nat} (hi : i < bs.prems.length) (hj : j < 5) {u : Value} {y : Pm} (hy : encPm y = (encPm bs.prems[i]).set j u) :
    Sp w B b zs R (wr.setCell ⟨g, i * 5 + j, none⟩ u) q ⟨bs.prems.set i y, bs.rules, bs.proms⟩ pv rv qv vs := by
  have hgb : pv.ownBlock = some g := by rw [hv]; rfl
  obtain ⟨cur, htag⟩ := owns_tag h.p5 hgb
  have hg0 := (owns_blk h.p5 g hgb).1
  have hlt := h.lt
  have hBb := h.base_le
  have hk : ∀ k, k ≠ g → (wr.setCell ⟨g, i * 5 + j, none⟩ u).heap[k]? = wr.heap[k]? := fun k hk => Below.heap_setCell wr ⟨g, i * 5 + j, none⟩ u k hk
  refine ⟨(hk R (fun e => tag_ne h.box htag (by decide) e)).trans h.box, (hk _ (by omega)).trans h.res, h.lo, ?_, owns_kept h.q5 fun g' e => hk g' (by obtain ⟨c', h'⟩ := owns_tag h.q5 e; exact tag_ne h' htag (by decide)), h.len,
    owns_kept h.r5 fun g' e => hk g' (by obtain ⟨c', h'⟩ := owns_tag h.r5 e; exact tag_ne h' htag (by decide)), fun i' hi hi' => owns_kept (h.bod i' hi hi') fun g' e => hk g' (by obtain ⟨c', h'⟩ := owns_tag (h.bod i' hi hi') e; exact tag_ne h' htag (by decide)), h.apart,
    h.src.setCell _ _ (by show B ≤ g; omega) (by show g ≠ b; omega), only_setCell h.gr (.inr (by show w.heap.size ≤ g; omega)) _, h.lt⟩
  have h1 := h.p5
  unfold OwnPm at h1 ⊢
  rw [hv] at h1 ⊢
  have h2 := (World.ownsRow.stored h1 (i * 5 + j) u).1
  rw [flat_put encPm 5 (fun _ => rfl) u y bs.prems i j hi hj hy] at h2
  simpa using h2
end
end Go.Proofs.YtiffcdhiejmbdaaGreatDoor

namespace Go.Proofs.YtiffcdhiejmbdaaGreatDoor
set_option linter.unusedVariables false
set_option linter.unusedSimpArgs false
open Go Go.RowKit

theorem zip_set {α β : Type} : ∀ (xs : List α) (ys : List β) (i : Nat) (x : α) (y : β), (xs.zip ys).set i (x, y) = (xs.set i x).zip (ys.set i y)
  | [], _, _, _, _ => by simp
  | _ :: _, [], i, _, _ => by cases i <;> simp
  | a :: xs, b :: ys, 0, x, y => by simp
  | a :: xs, b :: ys, i + 1, x, y => by simp [zip_set xs ys i x y]
theorem zip_snoc {α β : Type} (xs : List α) (ys : List β) (h : ys.length = xs.length) (x : α) (y : β) : (xs ++ [x]).zip (ys ++ [y]) = xs.zip ys ++ [(x, y)] := by
  rw [List.zip_append h.symm]
  rfl
theorem snoc_get {α : Type} {xs : List α} {x : α} {P : α → Prop} (h : ∀ i (hi : i < xs.length), P xs[i]) (hx : P x) : ∀ i (hi : i < (xs ++ [x]).length), P (xs ++ [x])[i] := fun i hi => by
  by_cases h1 : i < xs.length
  · rw [List.getElem_append_left h1]; exact h i h1
  · have e : i = xs.length := by rw [List.length_append, List.length_singleton] at hi; omega
    subst e
    rw [List.getElem_append_right (Nat.le_refl _)]
    simpa using hx

theorem OwnL.bodyInT {w : World} {B : Nat} {v : Value} {ys : List Lt} {S : Nat → Prop} (h : OwnL w B v ys) (hS : ∀ g, v.ownBlock = some g → S g) : BodyIn w S v ys := by
  rcases h.2 with ⟨rfl, h0⟩ | ⟨g, cap, cur, hv, hB, hg, hnc, hcm, hcs, htk⟩
  · exact .inl ⟨rfl, List.eq_nil_of_length_eq_zero h0⟩
  · refine .inr ⟨g, 0, cap, hv, hnc, hcm, lt_of_block hg, hS g (by rw [hv]; rfl), fun i hi => ⟨?_, ?_⟩⟩
    · refine owns_cell h hv (0 + i * 2) _ ?_
      rw [flatL_eq, show 0 + i * 2 = i * 2 + 0 by omega, flat_get encL 2 encL_len ys i 0 hi (by omega)]
      rfl
    · refine owns_cell h hv (0 + i * 2 + 1) _ ?_
      rw [flatL_eq, show 0 + i * 2 + 1 = i * 2 + 1 by omega, flat_get encL 2 encL_len ys i 1 hi (by omega)]
      rfl

section
variable {w wr w1 : World} {B b R q q' n c : Nat} {a : Option Addr} {zs : List Int} {bs : Bs} {pv rv qv : Value} {vs : List Value}

/-- All blocks are kept but for two. -/
structure But (b : Nat) (o : Option Nat) (w w' : World) : Prop where
  os : w'.os = w.os
  tape : w'.tape = w.tape
  output : w'.output = w.output
  size : w.heap.size ≤ w'.heap.size
  block : ∀ k, k < w.heap.size → k ≠ b → some k ≠ o → w'.heap[k]? = w.heap[k]?
/-- A field of a rule is stored; ahead of it the body's own row may have grown, and the reader have moved. -/
theorem Sp.putX (h : Sp w B b zs R wr q bs pv rv qv vs) {g c : Nat} (hv : rv = .slice (some ⟨g, 0, none⟩) bs.rules.length c) {i j : Nat} (hi : i < bs.rules.length) (hi' : i < vs.length) (hj : j < 6) {u : Value} {y : Ru} {vb : Value}
    (hg : But b vs[i].ownBlock wr w1) (hs : SrcAt w1 B b zs q') (hy : encRu y vb = (encRu bs.rules[i] vs[i]).set j u) (hb : OwnL w1 (w.heap.size + 2) vb y.body) (old : ∀ k (hk : k < vs.length), k ≠ i → ∀ g, vb.ownBlock = some g → vs[k].ownBlock ≠ some g) :
    Sp w B b zs R (w1.setCell ⟨g, i * 6 + j, none⟩ u) q' ⟨bs.prems, bs.rules.set i y, bs.proms⟩ pv rv qv (vs.set i vb) := by
  have hgb : rv.ownBlock = some g := by rw [hv]; rfl
  obtain ⟨cur, htag⟩ := owns_tag h.r5 hgb
  have hg0 := (owns_blk h.r5 g hgb).1
  have hlt := h.lt
  have hBb := h.base_le
  have hsz := h.size
  have hR := lt_of_block h.box
  have hi2 := h.bod i hi hi'
  have hne : ∀ {k : Nat} {cs : Array Value} {t : TypeId}, w.heap.size < k → wr.heap[k]? = some (.cells cs t (0, 0)) → t ≠ 28 → w1.heap[k]? = wr.heap[k]? := fun {k cs t} h0 h1 h2 => hg.block k (lt_of_block h1) (by omega) (fun e => by obtain ⟨cs', hc⟩ := owns_tag hi2 e.symm; exact tag_ne h1 hc h2 rfl)
  have hset : ∀ k, k ≠ g → (w1.setCell ⟨g, i * 6 + j, none⟩ u).heap[k]? = w1.heap[k]? := fun k hk => Below.heap_setCell w1 ⟨g, i * 6 + j, none⟩ u k hk
  have hi2g : ∀ k, vs[i].ownBlock = some k → w.heap.size + 2 ≤ k := fun k e => (owns_blk hi2 k e).1
  have htag1 : w1.heap[g]? = some (.cells cur 72 (0, 0)) := (hne (by omega) htag (by decide)).trans htag
  have hres : w1.heap[w.heap.size + 1]? = wr.heap[w.heap.size + 1]? := hg.block _ (by omega) (by omega) (fun e => by have := hi2g _ e.symm; omega)
  have hr1 : w1.ownsRow (w.heap.size + 2) 72 6 rv bs.rules.length ((bs.rules.zip vs).flatMap fun x => encRu x.1 x.2) := owns_kept h.r5 fun g' e => by obtain ⟨c', h'⟩ := owns_tag h.r5 e; exact hne (by have := (owns_blk h.r5 g' e).1; omega) h' (by decide)
  have hlo := h.lo
  refine ⟨(hset R (fun e => tag_ne h.box htag (by decide) e)).trans ((hne (by omega) h.box (by decide)).trans h.box), (hset _ (by omega)).trans (hres.trans h.res), h.lo, ?_, ?_, ?_, ?_, ?_, ?_, ?_, ?_, h.lt⟩
  · exact owns_kept h.p5 fun g' e => by obtain ⟨c', h'⟩ := owns_tag h.p5 e; exact (hset g' (tag_ne h' htag (by decide))).trans (hne (by have := (owns_blk h.p5 g' e).1; omega) h' (by decide))
  · exact owns_kept h.q5 fun g' e => by obtain ⟨c', h'⟩ := owns_tag h.q5 e; exact (hset g' (tag_ne h' htag (by decide))).trans (hne (by have := (owns_blk h.q5 g' e).1; omega) h' (by decide))
  · simp [h.len]
  · have h2 := hr1
    rw [hv] at h2 ⊢
    have h3 := (World.ownsRow.stored h2 (i * 6 + j) u).1
    have hz : i < (bs.rules.zip vs).length := by rw [List.length_zip]; omega
    rw [flat_put (fun x : Ru × Value => encRu x.1 x.2) 6 (fun _ => rfl) u (y, vb) (bs.rules.zip vs) i j hz hj (by rw [List.getElem_zip]; exact hy), zip_set] at h3
    simpa using h3
  · intro k hk hk'
    by_cases e : k = i
    · subst e
      have e1 : (vs.set k vb)[k]'hk' = vb := by simp
      have e2 : (bs.rules.set k y)[k]'hk = y := by simp
      simp only [e1, e2]
      exact owns_kept hb fun g' e' => hset g' (by obtain ⟨c', h'⟩ := owns_tag hb e'; exact tag_ne h' htag1 (by decide))
    · have hk1 : k < bs.rules.length := by simpa using hk
      have hk2 : k < vs.length := by simpa using hk'
      have e1 : (vs.set i vb)[k]'hk' = vs[k] := by rw [List.getElem_set_ne (fun e' => e e'.symm)]
      have e2 : (bs.rules.set i y)[k]'hk = bs.rules[k] := by rw [List.getElem_set_ne (fun e' => e e'.symm)]
      simp only [e1, e2]
      have hb2 := h.bod k hk1 hk2
      exact owns_kept hb2 fun g' e' => by
        obtain ⟨c', h'⟩ := owns_tag hb2 e'
        exact (hset g' (tag_ne h' htag (by decide))).trans (hg.block g' (owns_blk hb2 g' e').2 (by have := (owns_blk hb2 g' e').1; omega) (fun e3 => h.apart k i hk2 hi' e g' e' e3.symm))
  · intro a c' ha hc hac g' e1 e2
    have ha' : a < vs.length := by simpa using ha
    have hc' : c' < vs.length := by simpa using hc
    by_cases hai : a = i
    · subst hai
      rw [List.getElem_set_self] at e1
      rw [List.getElem_set_ne hac] at e2
      exact old c' hc' (fun e => hac e.symm) g' e1 e2
    · rw [List.getElem_set_ne (fun e => hai e.symm)] at e1
      by_cases hci : c' = i
      · subst hci
        rw [List.getElem_set_self] at e2
        exact old a ha' hai g' e2 e1
      · rw [List.getElem_set_ne (fun e => hci e.symm)] at e2
        exact h.apart a c' ha' hc' hac g' e1 e2
  · exact hs.setCell _ _ (by show B ≤ g; omega) (by show g ≠ b; omega)
  · refine only_setCell ?_ (.inr (by show w.heap.size ≤ g; omega)) _
    exact ⟨hg.os.trans h.gr.os, hg.tape.trans h.gr.tape, hg.output.trans h.gr.output, Nat.le_trans h.gr.size hg.size, fun k hk hn => (hg.block k (Nat.lt_of_lt_of_le hk h.gr.size) (fun e => hn (by rw [e])) (fun e => by have := hi2g k e.symm; omega)).trans (h.gr.block k hk hn)⟩
theorem Sp.putR' (h : Sp w B b zs R wr q bs pv rv qv vs) {g c : Nat} (hv : rv = .slice (some ⟨g, 0, none⟩) bs.rules.length c) {i j : Nat} (hi : i < bs.rules.length) (hi' : i < vs.length) (hj : j < 6) {u : Value} {y : Ru} {vb : Value}
    (hg : wr.grownBy w1 vs[i].ownBlock) (hy : encRu y vb = (encRu bs.rules[i] vs[i]).set j u) (hb : OwnL w1 (w.heap.size + 2) vb y.body) (old : ∀ k (hk : k < vs.length), k ≠ i → ∀ g, vb.ownBlock = some g → vs[k].ownBlock ≠ some g) :
    Sp w B b zs R (w1.setCell ⟨g, i * 6 + j, none⟩ u) q ⟨bs.prems, bs.rules.set i y, bs.proms⟩ pv rv qv (vs.set i vb) :=
  h.putX hv hi hi' hj ⟨hg.os, hg.tape, hg.output, hg.size, fun k hk _ ho => hg.block k hk ho⟩ (h.src.kept hg fun g' e => by
    have h1 := (owns_blk (h.bod i hi hi') g' e).1
    have h2 := h.lt
    have h3 := h.base_le
    exact ⟨by omega, by omega⟩) hy hb old
theorem Sp.putR (h : Sp w B b zs R wr q bs pv rv qv vs) {g c : Nat} (hv : rv = .slice (some ⟨g, 0, none⟩) bs.rules.length c) {i j : Nat} (hi : i < bs.rules.length) (hi' : i < vs.length) (hj : j < 6) {u : Value} {y : Ru} {vb : Value}
    (hg : wr.grownBy w1 vs[i].ownBlock) (hy : encRu y vb = (encRu bs.rules[i] vs[i]).set j u) (hb : OwnL w1 (w.heap.size + 2) vb y.body) (hbl : ∀ g, vb.ownBlock = some g → vs[i].ownBlock = some g ∨ wr.heap.size ≤ g) :
    Sp w B b zs R (w1.setCell ⟨g, i * 6 + j, none⟩ u) q ⟨bs.prems, bs.rules.set i y, bs.proms⟩ pv rv qv (vs.set i vb) :=
  h.putR' hv hi hi' hj hg hy hb fun k hk hki g e3 e4 => by
    rcases hbl g e3 with h5 | h5
    · exact h.apart i k hi' hk (fun e => hki e.symm) g h5 e4
    · have := (owns_blk (h.bod k (by have := h.len; omega) hk) g e4).2
      omega
/-- The cells of a rule, with its body's own value. -/
theorem Sp.cell6 (h : Sp w B b zs R wr q bs pv (.slice a n c) qv vs) {i : Nat} (hi : i < bs.rules.length) (hi' : i < vs.length) : ∃ g : Nat, a = some ⟨g, 0, none⟩ ∧ g < wr.heap.size ∧ wr.cell? ⟨g, i * 6, none⟩ = some (.string (bs.rules[i]).name) ∧ wr.cell? ⟨g, i * 6 + 1, none⟩ = some (.bool (bs.rules[i]).strict) ∧
    wr.cell? ⟨g, i * 6 + 2, none⟩ = some (.int .i64 (bs.rules[i]).rank) ∧ wr.cell? ⟨g, i * 6 + 3, none⟩ = some vs[i] ∧ wr.cell? ⟨g, i * 6 + 4, none⟩ = some (.bool (bs.rules[i]).head.neg) ∧ wr.cell? ⟨g, i * 6 + 5, none⟩ = some (.string (bs.rules[i]).head.name) := by
  have ho := h.r5
  rcases ho.2 with ⟨hv, h0⟩ | ⟨g, cap, cur, hv, hB, hg, hnc, hcm, -, -⟩
  · omega
  · injection hv with hv1
    have hi2 : i < (bs.rules.zip vs).length := by rw [List.length_zip]; omega
    have hc := fun j (hj : j < 6) (u : Value) (hu : (encRu bs.rules[i] vs[i])[j]? = some u) => owns_cell ho (by rw [hv1]) (i * 6 + j) u (by
      rw [flat_get (fun x : Ru × Value => encRu x.1 x.2) 6 (fun _ => rfl) (bs.rules.zip vs) i j hi2 hj, List.getElem_zip]; exact hu)
    exact ⟨g, hv1, lt_of_block hg, hc 0 (by decide) _ rfl, hc 1 (by decide) _ rfl, hc 2 (by decide) _ rfl, hc 3 (by decide) _ rfl, hc 4 (by decide) _ rfl, hc 5 (by decide) _ rfl⟩

/-- What is seen of it as a base. -/
theorem Sp.own (h : Sp w B b zs R wr q bs pv rv qv vs) : BaseOwn wr (w.heap.size + 2) (.agg #[pv, rv, qv]) bs :=
  ⟨pv, rv, qv, rfl, h.p5, ⟨vs, h.len, h.r5, fun i hi hi' => OwnL.bodyInT (h.bod i hi hi') fun g e => ⟨(owns_blk (h.bod i hi hi') g e).1, fun e2 => by
    obtain ⟨c1, t1⟩ := owns_tag (h.bod i hi hi') e
    obtain ⟨c2, t2⟩ := owns_tag h.r5 e2
    exact tag_ne t1 t2 (by decide) rfl⟩⟩, h.q5⟩
end
end Go.Proofs.YtiffcdhiejmbdaaGreatDoor

namespace Go.Proofs.YtiffcdhiejmbdaaGreatDoor
set_option linter.unusedVariables false
set_option linter.unusedSimpArgs false
open Go Go.RowKit

/-- What the last steps want. -/
structure Fin5 (w : World) (B b : Nat) (zs : List Int) (R : Nat) (wr : World) (q : Nat) (bs : Bs) (pv rv qv : Value) : Prop where
  box : wr.heap[R]? = some (.cells #[pv, rv, qv] 26 (0, 0))
  res : wr.heap[w.heap.size + 1]? = some (.cells #[.slice none 0 0, .slice none 0 0, .slice none 0 0] 26 (0, 0))
  lo : w.heap.size + 2 ≤ R
  own : BaseOwn wr (w.heap.size + 2) (.agg #[pv, rv, qv]) bs
  src : SrcAt wr B b zs q
  gr : w.grownBy wr (some b)
  lt : b < w.heap.size

section
variable {w wr w' : World} {B b R q q' : Nat} {zs : List Int} {bs : Bs} {pv rv qv : Value} {vs : List Value}
theorem Sp.rus (h : Sp w B b zs R wr q bs pv rv qv vs) : OwnRu wr (w.heap.size + 2) (fun k => w.heap.size + 2 ≤ k) rv bs.rules :=
  ⟨vs, h.len, h.r5, fun i hi hi' => OwnL.bodyInT (h.bod i hi hi') fun g e => ⟨(owns_blk (h.bod i hi hi') g e).1, fun e2 => by
    obtain ⟨c1, t1⟩ := owns_tag (h.bod i hi hi') e
    obtain ⟨c2, t2⟩ := owns_tag h.r5 e2
    exact tag_ne t1 t2 (by decide) rfl⟩⟩
theorem Sp.fin (h : Sp w B b zs R wr q bs pv rv qv vs) : Fin5 w B b zs R wr q bs pv rv qv := ⟨h.box, h.res, h.lo, h.own, h.src, h.gr, h.lt⟩

theorem Sp.addQ (h : Sp w B b zs R wr q bs pv rv qv vs) {qv' : Value} {p : Pr} (h2 : w'.ownsRow (w.heap.size + 2) 80 4 qv' (bs.proms.length + 1) (bs.proms.flatMap encPr ++ encPr p)) (hg : wr.grownBy w' qv.ownBlock) (hbl : qv'.ownBlock = qv.ownBlock ∨ qv'.ownBlock = some wr.heap.size) :
    Sp w B b zs R (w'.setCell ⟨R, 2, none⟩ qv') q ⟨bs.prems, bs.rules, bs.proms ++ [p]⟩ pv rv qv' vs := by
  have hlt := h.lt
  have hlo := h.lo
  have hBb := h.base_le
  have hsz := h.size
  have hR := lt_of_block h.box
  have hq2 : ∀ g, qv.ownBlock = some g → w.heap.size + 2 ≤ g := fun g e => (owns_blk h.q5 g e).1
  have hne : ∀ {k : Nat} {cs : Array Value} {t : TypeId}, wr.heap[k]? = some (.cells cs t (0, 0)) → t ≠ 80 → w'.heap[k]? = wr.heap[k]? := fun {k cs t} h1 h2 => hg.block k (lt_of_block h1) (fun e => by obtain ⟨c, hc⟩ := owns_tag h.q5 e.symm; exact tag_ne h1 hc h2 rfl)
  have hset : ∀ k, k ≠ R → (w'.setCell ⟨R, 2, none⟩ qv').heap[k]? = w'.heap[k]? := fun k hk => Below.heap_setCell w' ⟨R, 2, none⟩ qv' k hk
  have hres : w'.heap[w.heap.size + 1]? = wr.heap[w.heap.size + 1]? := hg.block _ (by omega) (fun e => by have := hq2 _ e.symm; omega)
  have hbox : w'.heap[R]? = some (.cells #[pv, rv, qv] 26 (0, 0)) := (hne h.box (by decide)).trans h.box
  refine ⟨set_cells hbox, (hset _ (by omega)).trans (hres.trans h.res), h.lo, ?_, ?_, h.len, ?_, fun i hi hi' => ?_, h.apart, ?_, ?_, h.lt⟩
  · exact owns_kept h.p5 fun g' e => by obtain ⟨c', h'⟩ := owns_tag h.p5 e; exact (hset g' (tag_ne h' h.box (by decide))).trans (hne h' (by decide))
  · have h3 : OwnPr w' (w.heap.size + 2) qv' (bs.proms ++ [p]) := by
      unfold OwnPr
      rw [List.length_append, List.length_singleton, List.flatMap_append, List.flatMap_cons, List.flatMap_nil, List.append_nil]
      exact h2
    exact owns_kept h3 fun g' e => by obtain ⟨c', h'⟩ := owns_tag h3 e; exact hset g' (tag_ne h' hbox (by decide))
  · exact owns_kept h.r5 fun g' e => by obtain ⟨c', h'⟩ := owns_tag h.r5 e; exact (hset g' (tag_ne h' h.box (by decide))).trans (hne h' (by decide))
  · exact owns_kept (h.bod i hi hi') fun g' e => by obtain ⟨c', h'⟩ := owns_tag (h.bod i hi hi') e; exact (hset g' (tag_ne h' h.box (by decide))).trans (hne h' (by decide))
  · exact (h.src.kept hg fun g' e => ⟨by have := hq2 g' e; omega, by have := hq2 g' e; omega⟩).setCell _ _ (by show B ≤ R; omega) (by show R ≠ b; omega)
  · exact only_setCell (only_own h.gr hg fun g' e => by have := hq2 g' e; omega) (.inr (by show w.heap.size ≤ R; omega)) _

theorem Sp.addR (h : Sp w B b zs R wr q bs pv rv qv vs) {rv' vb : Value} {r : Ru} (h2 : w'.ownsRow (w.heap.size + 2) 72 6 rv' (bs.rules.length + 1) (((bs.rules.zip vs).flatMap fun x => encRu x.1 x.2) ++ encRu r vb)) (hg : wr.grownBy w' rv.ownBlock)
    (hb : OwnL wr (w.heap.size + 2) vb r.body) (ha : ∀ j (hj : j < vs.length) g, vb.ownBlock = some g → vs[j].ownBlock ≠ some g) :
    Sp w B b zs R (w'.setCell ⟨R, 1, none⟩ rv') q ⟨bs.prems, bs.rules ++ [r], bs.proms⟩ pv rv' qv (vs ++ [vb]) := by
  have hlt := h.lt
  have hlo := h.lo
  have hBb := h.base_le
  have hsz := h.size
  have hlen := h.len
  have hR := lt_of_block h.box
  have hq2 : ∀ g, rv.ownBlock = some g → w.heap.size + 2 ≤ g := fun g e => (owns_blk h.r5 g e).1
  have hne : ∀ {k : Nat} {cs : Array Value} {t : TypeId}, wr.heap[k]? = some (.cells cs t (0, 0)) → t ≠ 72 → w'.heap[k]? = wr.heap[k]? := fun {k cs t} h1 h2 => hg.block k (lt_of_block h1) (fun e => by obtain ⟨c, hc⟩ := owns_tag h.r5 e.symm; exact tag_ne h1 hc h2 rfl)
  have hset : ∀ k, k ≠ R → (w'.setCell ⟨R, 1, none⟩ rv').heap[k]? = w'.heap[k]? := fun k hk => Below.heap_setCell w' ⟨R, 1, none⟩ rv' k hk
  have hres : w'.heap[w.heap.size + 1]? = wr.heap[w.heap.size + 1]? := hg.block _ (by omega) (fun e => by have := hq2 _ e.symm; omega)
  have hbox : w'.heap[R]? = some (.cells #[pv, rv, qv] 26 (0, 0)) := (hne h.box (by decide)).trans h.box
  have hB : ∀ {v : Value} {ys : List Lt}, OwnL wr (w.heap.size + 2) v ys → OwnL (w'.setCell ⟨R, 1, none⟩ rv') (w.heap.size + 2) v ys := fun {v ys} hv => owns_kept hv fun g' e => by obtain ⟨c', h'⟩ := owns_tag hv e; exact (hset g' (tag_ne h' h.box (by decide))).trans (hne h' (by decide))
  refine ⟨set_cells hbox, (hset _ (by omega)).trans (hres.trans h.res), h.lo, ?_, ?_, by simp [hlen], ?_, fun i hi hi' => ?_, ?_, ?_, ?_, h.lt⟩
  · exact owns_kept h.p5 fun g' e => by obtain ⟨c', h'⟩ := owns_tag h.p5 e; exact (hset g' (tag_ne h' h.box (by decide))).trans (hne h' (by decide))
  · exact owns_kept h.q5 fun g' e => by obtain ⟨c', h'⟩ := owns_tag h.q5 e; exact (hset g' (tag_ne h' h.box (by decide))).trans (hne h' (by decide))
  · have h3 : w'.ownsRow (w.heap.size + 2) 72 6 rv' (bs.rules ++ [r]).length (((bs.rules ++ [r]).zip (vs ++ [vb])).flatMap fun x => encRu x.1 x.2) := by
      rw [List.length_append, List.length_singleton, zip_snoc _ _ hlen, List.flatMap_append, List.flatMap_cons, List.flatMap_nil, List.append_nil]
      exact h2
    exact owns_kept h3 fun g' e => by obtain ⟨c', h'⟩ := owns_tag h3 e; exact hset g' (tag_ne h' hbox (by decide))
  · by_cases e : i < bs.rules.length
    · have e' : i < vs.length := by omega
      simp only [List.getElem_append_left e, List.getElem_append_left e']
      exact hB (h.bod i e e')
    · have ei : i = bs.rules.length := by simp only [List.length_append, List.length_singleton] at hi; omega
      subst ei
      have e1 : (bs.rules ++ [r])[bs.rules.length]'hi = r := by simp
      have e2 : (vs ++ [vb])[bs.rules.length]'hi' = vb := by simp [← hlen]
      simp only [e1, e2]
      exact hB hb
  · intro a c ha2 hc2 hac g e1 e2
    simp only [List.length_append, List.length_singleton] at ha2 hc2
    by_cases ea : a < vs.length
    · rw [List.getElem_append_left ea] at e1
      by_cases ec : c < vs.length
      · rw [List.getElem_append_left ec] at e2
        exact h.apart a c ea ec hac g e1 e2
      · have : c = vs.length := by omega
        subst this
        have e3 : vb.ownBlock = some g := by simpa using e2
        exact ha a ea g e3 e1
    · have : a = vs.length := by omega
      subst this
      have e3 : vb.ownBlock = some g := by simpa using e1
      have ec : c < vs.length := by omega
      rw [List.getElem_append_left ec] at e2
      exact ha c ec g e3 e2
  · exact (h.src.kept hg fun g' e => ⟨by have := hq2 g' e; omega, by have := hq2 g' e; omega⟩).setCell _ _ (by show B ≤ R; omega) (by show R ≠ b; omega)
  · exact only_setCell (only_own h.gr hg fun g' e => by have := hq2 g' e; omega) (.inr (by show w.heap.size ≤ R; omega)) _

/-- A rule that is there already, once more: its body is shared. -/
theorem Sp.again (h : Sp w B b zs R wr q bs pv rv qv vs) {rv' : Value} {i : Nat} (hi : i < bs.rules.length) (hi' : i < vs.length) (h2 : w'.ownsRow (w.heap.size + 2) 72 6 rv' (bs.rules.length + 1) (((bs.rules.zip vs).flatMap fun x => encRu x.1 x.2) ++ encRu bs.rules[i] vs[i])) (hg : wr.grownBy w' rv.ownBlock) :
    Fin5 w B b zs R (w'.setCell ⟨R, 1, none⟩ rv') q ⟨bs.prems, bs.rules ++ [bs.rules[i]], bs.proms⟩ pv rv' qv := by
  have hlt := h.lt
  have hlo := h.lo
  have hBb := h.base_le
  have hsz := h.size
  have hlen := h.len
  have hR := lt_of_block h.box
  have hq2 : ∀ g, rv.ownBlock = some g → w.heap.size + 2 ≤ g := fun g e => (owns_blk h.r5 g e).1
  have hne : ∀ {k : Nat} {cs : Array Value} {t : TypeId}, wr.heap[k]? = some (.cells cs t (0, 0)) → t ≠ 72 → w'.heap[k]? = wr.heap[k]? := fun {k cs t} h1 h2 => hg.block k (lt_of_block h1) (fun e => by obtain ⟨c, hc⟩ := owns_tag h.r5 e.symm; exact tag_ne h1 hc h2 rfl)
  have hset : ∀ k, k ≠ R → (w'.setCell ⟨R, 1, none⟩ rv').heap[k]? = w'.heap[k]? := fun k hk => Below.heap_setCell w' ⟨R, 1, none⟩ rv' k hk
  have hres : w'.heap[w.heap.size + 1]? = wr.heap[w.heap.size + 1]? := hg.block _ (by omega) (fun e => by have := hq2 _ e.symm; omega)
  have hbox : w'.heap[R]? = some (.cells #[pv, rv, qv] 26 (0, 0)) := (hne h.box (by decide)).trans h.box
  have hB : ∀ {v : Value} {ys : List Lt}, OwnL wr (w.heap.size + 2) v ys → OwnL (w'.setCell ⟨R, 1, none⟩ rv') (w.heap.size + 2) v ys := fun {v ys} hv => owns_kept hv fun g' e => by obtain ⟨c', h'⟩ := owns_tag hv e; exact (hset g' (tag_ne h' h.box (by decide))).trans (hne h' (by decide))
  have h3 : w'.ownsRow (w.heap.size + 2) 72 6 rv' (bs.rules ++ [bs.rules[i]]).length (((bs.rules ++ [bs.rules[i]]).zip (vs ++ [vs[i]])).flatMap fun x => encRu x.1 x.2) := by
    rw [List.length_append, List.length_singleton, zip_snoc _ _ hlen, List.flatMap_append, List.flatMap_cons, List.flatMap_nil, List.append_nil]
    exact h2
  have h4 := owns_kept h3 (w' := w'.setCell ⟨R, 1, none⟩ rv') fun g' e => by obtain ⟨c', h'⟩ := owns_tag h3 e; exact hset g' (tag_ne h' hbox (by decide))
  refine ⟨set_cells hbox, (hset _ (by omega)).trans (hres.trans h.res), h.lo, ⟨pv, rv', qv, rfl, ?_, ⟨vs ++ [vs[i]], by simp [hlen], h4, fun k hk hk' => ?_⟩, ?_⟩, ?_, ?_, h.lt⟩
  · exact owns_kept h.p5 fun g' e => by obtain ⟨c', h'⟩ := owns_tag h.p5 e; exact (hset g' (tag_ne h' h.box (by decide))).trans (hne h' (by decide))
  · have hK : ∀ {v : Value} {ys : List Lt}, OwnL wr (w.heap.size + 2) v ys → BodyIn (w'.setCell ⟨R, 1, none⟩ rv') (fun k => w.heap.size + 2 ≤ k ∧ rv'.ownBlock ≠ some k) v ys := fun {v ys} hv => OwnL.bodyInT (hB hv) fun g e => ⟨(owns_blk hv g e).1, fun e2 => by
      obtain ⟨c1, t1⟩ := owns_tag (hB hv) e
      obtain ⟨c2, t2⟩ := owns_tag h4 e2
      exact tag_ne t1 t2 (by decide) rfl⟩
    by_cases e : k < bs.rules.length
    · have e' : k < vs.length := by omega
      simp only [List.getElem_append_left e, List.getElem_append_left e']
      exact hK (h.bod k e e')
    · have ei : k = bs.rules.length := by simp only [List.length_append, List.length_singleton] at hk; omega
      subst ei
      have e1 : (bs.rules ++ [bs.rules[i]])[bs.rules.length]'hk = bs.rules[i] := by simp
      have e2 : (vs ++ [vs[i]])[bs.rules.length]'hk' = vs[i] := by simp [← hlen]
      simp only [e1, e2]
      exact hK (h.bod i hi hi')
  · exact owns_kept h.q5 fun g' e => by obtain ⟨c', h'⟩ := owns_tag h.q5 e; exact (hset g' (tag_ne h' h.box (by decide))).trans (hne h' (by decide))
  · exact (h.src.kept hg fun g' e => ⟨by have := hq2 g' e; omega, by have := hq2 g' e; omega⟩).setCell _ _ (by show B ≤ R; omega) (by show R ≠ b; omega)
  · exact only_setCell (only_own h.gr hg fun g' e => by have := hq2 g' e; omega) (.inr (by show w.heap.size ≤ R; omega)) _
end
end Go.Proofs.YtiffcdhiejmbdaaGreatDoor

namespace Go.Proofs.YtiffcdhiejmbdaaGreatDoor
set_option linter.unusedVariables false
set_option linter.unusedSimpArgs false
open Go Go.RowKit

/-- What SpoiltBase's answer keeps within. -/
structure SpOk (a c : Bs) : Prop where
  ok : BsOk c
  n1 : c.prems.length ≤ a.prems.length
  n2 : c.rules.length ≤ a.rules.length + 1
  n3 : c.proms.length ≤ a.proms.length + 1
  nb : ∀ M, 6 ≤ M → (∀ r ∈ a.rules, r.body.length ≤ M) → ∀ r ∈ c.rules, r.body.length ≤ M + 1
theorem mem_set {α : Type} {xs : List α} {i : Nat} {y x : α} (h : x ∈ xs.set i y) : x ∈ xs ∨ x = y := List.mem_or_eq_of_mem_set h
theorem SpOk.setP {bs : Bs} (hok : BsOk bs) {i : Nat} {y : Pm} (hy : PmOk y) : SpOk bs ⟨bs.prems.set i y, bs.rules, bs.proms⟩ :=
  ⟨⟨fun p hp => (mem_set hp).elim (hok.1 p) (fun e => by rw [e]; exact hy), hok.2.1, hok.2.2⟩, by simp, by simp, by simp, fun M _ h r hr => Nat.le_succ_of_le (h r hr)⟩
theorem SpOk.setR {bs : Bs} (hok : BsOk bs) {i : Nat} {y : Ru} (hy : RuOk y) (hi : i < bs.rules.length) (hb : y.body.length ≤ bs.rules[i].body.length + 1 ∨ y.body.length ≤ 6) : SpOk bs ⟨bs.prems, bs.rules.set i y, bs.proms⟩ :=
  ⟨⟨hok.1, fun p hp => (mem_set hp).elim (hok.2.1 p) (fun e => by rw [e]; exact hy), hok.2.2⟩, by simp, by simp, by simp, fun M hM h r hr => (mem_set hr).elim (fun hr => Nat.le_succ_of_le (h r hr)) (fun e => by
    rw [e]
    have := h _ (List.getElem_mem hi)
    omega)⟩
theorem SpOk.addR {bs : Bs} (hok : BsOk bs) {i : Nat} (hi : i < bs.rules.length) : SpOk bs ⟨bs.prems, bs.rules ++ [bs.rules[i]], bs.proms⟩ :=
  ⟨⟨hok.1, fun p hp => by
    rcases List.mem_append.1 hp with h | h
    · exact hok.2.1 p h
    · rw [List.mem_singleton.1 h]; exact hok.2.1 _ (List.getElem_mem hi), hok.2.2⟩, by simp, by simp, by simp, fun M _ h r hr => by
    rcases List.mem_append.1 hr with h1 | h1
    · exact Nat.le_succ_of_le (h r h1)
    · rw [List.mem_singleton.1 h1]; exact Nat.le_succ_of_le (h _ (List.getElem_mem hi))⟩
theorem SpOk.addQ {bs : Bs} (hok : BsOk bs) {y : Pr} (hy : PrOk y) : SpOk bs ⟨bs.prems, bs.rules, bs.proms ++ [y]⟩ :=
  ⟨⟨hok.1, hok.2.1, fun p hp => by
    rcases List.mem_append.1 hp with h | h
    · exact hok.2.2 p h
    · rw [List.mem_singleton.1 h]; exact hy⟩, by simp, by simp, by simp, fun M _ h r hr => Nat.le_succ_of_le (h r hr)⟩

/-- The result's box filled. -/
theorem Fin5.done {w wr : World} {B b R q : Nat} {zs : List Int} {bs : Bs} {pv rv qv : Value} (h : Fin5 w B b zs R wr q bs pv rv qv) (u0 u1 u2 : Value) :
    BaseOwn (((wr.setCell ⟨w.heap.size + 1, 0, none⟩ u0).setCell ⟨w.heap.size + 1, 1, none⟩ u1).setCell ⟨w.heap.size + 1, 2, none⟩ u2) w.heap.size (.agg #[pv, rv, qv]) bs ∧
      SrcAt (((wr.setCell ⟨w.heap.size + 1, 0, none⟩ u0).setCell ⟨w.heap.size + 1, 1, none⟩ u1).setCell ⟨w.heap.size + 1, 2, none⟩ u2) B b zs q ∧
      w.grownBy (((wr.setCell ⟨w.heap.size + 1, 0, none⟩ u0).setCell ⟨w.heap.size + 1, 1, none⟩ u1).setCell ⟨w.heap.size + 1, 2, none⟩ u2) (some b) := by
  have hlt := h.lt
  have hB := h.src.base
  have hk : ∀ k, w.heap.size + 2 ≤ k → (((wr.setCell ⟨w.heap.size + 1, 0, none⟩ u0).setCell ⟨w.heap.size + 1, 1, none⟩ u1).setCell ⟨w.heap.size + 1, 2, none⟩ u2).heap[k]? = wr.heap[k]? := fun k hk => by
    rw [Below.heap_setCell _ ⟨w.heap.size + 1, 2, none⟩ _ k (by show k ≠ w.heap.size + 1; omega), Below.heap_setCell _ ⟨w.heap.size + 1, 1, none⟩ _ k (by show k ≠ w.heap.size + 1; omega), Below.heap_setCell _ ⟨w.heap.size + 1, 0, none⟩ _ k (by show k ≠ w.heap.size + 1; omega)]
  refine ⟨?_, ((h.src.setCell ⟨w.heap.size + 1, 0, none⟩ u0 (by show B ≤ w.heap.size + 1; omega) (by show w.heap.size + 1 ≠ b; omega)).setCell ⟨w.heap.size + 1, 1, none⟩ u1 (by show B ≤ w.heap.size + 1; omega) (by show w.heap.size + 1 ≠ b; omega)).setCell ⟨w.heap.size + 1, 2, none⟩ u2 (by show B ≤ w.heap.size + 1; omega) (by show w.heap.size + 1 ≠ b; omega),
    only_setCell (only_setCell (only_setCell h.gr (p := ⟨w.heap.size + 1, 0, none⟩) (.inr (by show w.heap.size ≤ w.heap.size + 1; omega)) u0) (p := ⟨w.heap.size + 1, 1, none⟩) (.inr (by show w.heap.size ≤ w.heap.size + 1; omega)) u1) (p := ⟨w.heap.size + 1, 2, none⟩) (.inr (by show w.heap.size ≤ w.heap.size + 1; omega)) u2⟩
  obtain ⟨p', r', q', e, hp, ⟨vs, hvl, ho, hf⟩, hq⟩ := h.own
  have hsz : wr.heap.size ≤ (((wr.setCell ⟨w.heap.size + 1, 0, none⟩ u0).setCell ⟨w.heap.size + 1, 1, none⟩ u1).setCell ⟨w.heap.size + 1, 2, none⟩ u2).heap.size := by simp [size_setCell]
  refine ⟨p', r', q', e, owns_le (owns_kept hp fun g e => hk g (owns_blk hp g e).1) (by omega), ⟨vs, hvl, owns_le (owns_kept ho fun g e => hk g (owns_blk ho g e).1) (by omega), fun i hi hi' => (hf i hi hi').kept (fun k hS _ => hk k hS.1) hsz (fun k hS _ => ⟨by have := hS.1; omega, hS.2⟩)⟩, owns_le (owns_kept hq fun g e => hk g (owns_blk hq g e).1) (by omega)⟩

theorem le12 {l : List ByteArray} (h : l.all (fun s => decide (s.size ≤ 12)) = true) : ∀ s ∈ l, s.size ≤ 12 := fun s hs => by simpa using List.all_eq_true.1 h s hs
theorem But.refl (b : Nat) (o : Option Nat) (w : World) : But b o w w := ⟨rfl, rfl, rfl, Nat.le_refl _, fun _ _ _ _ => rfl⟩
theorem But.trans {b : Nat} {o : Option Nat} {w w' w'' : World} (h : But b o w w') (k : But b o w' w'') : But b o w w'' :=
  ⟨k.os.trans h.os, k.tape.trans h.tape, k.output.trans h.output, Nat.le_trans h.size k.size, fun i hi h1 h2 => (k.block i (Nat.lt_of_lt_of_le hi h.size) h1 h2).trans (h.block i hi h1 h2)⟩
theorem But.of {b : Nat} {o : Option Nat} {w w' : World} (h : w.grownBy w' (some b)) : But b o w w' := ⟨h.os, h.tape, h.output, h.size, fun k hk h1 _ => h.block k hk (fun e => h1 (by injection e))⟩
theorem But.of' {b : Nat} {o : Option Nat} {w w' : World} (h : w.grownBy w' o) : But b o w w' := ⟨h.os, h.tape, h.output, h.size, fun k hk _ h2 => h.block k hk h2⟩
theorem But.cell {b p i : Nat} {o : Option Nat} {w w' : World} {u : Value} (h : But b o w w') (hc : w.cell? ⟨p, i, none⟩ = some u) (h1 : p ≠ b) (h2 : some p ≠ o) : w'.cell? ⟨p, i, none⟩ = some u :=
  (World.cell?_of_block (a := ⟨p, i, none⟩) (h.block p (World.block_lt_of_cell? w ⟨p, i, none⟩ hc) h1 h2)).trans hc
namespace Own
/-- A new row of constants. -/
def isRowB (b : Nat) (cs : Array Value) (n : Nat) (t : TypeId) : Value → World → Prop := fun v w => ∃ nb : Nat, v = .slice (some ⟨nb, 0, none⟩) n n ∧ nb ≠ b ∧ w.heap[nb]? = some (.cells cs t (0, 0))
theorem isRowB_up (b : Nat) (cs : Array Value) (n : Nat) (t : TypeId) : UpB b (isRowB b cs n t) := fun _ _ _ hg ⟨nb, h1, h2, h3⟩ => ⟨nb, h1, h2, keptB hg h2 h3⟩
theorem rowB {W w : World} {B b : Nat} {zs : List Int} (hC : CB W B b zs w) (cs : Array Value) (n : Nat) (t : TypeId) : CB W B b zs (w.alloc (.cells cs t)) ∧ GB b w (w.alloc (.cells cs t)) ∧ relR (rA (isRowB b cs n t)) w (.slice (some ⟨w.heap.size, 0, none⟩) n n) (w.alloc (.cells cs t)) := by
  obtain ⟨q, hq⟩ := hC.2
  exact ⟨hC.grown (bgrow w _), only_of_below (bgrow w _) _, ⟨_, rfl, by have := hq.lt; omega, heap_alloc_new _ _⟩, fun h => by cases h⟩
def isIntB (l : List Int) : Value → World → Prop := fun v _ => ∃ z, v = .int .i64 z ∧ z ∈ l
theorem isIntB_up (b : Nat) (l : List Int) : UpB b (isIntB l) := fun _ _ _ _ h => h
def isTxtB (l : List ByteArray) : Value → World → Prop := fun v _ => ∃ s, v = .string s ∧ s ∈ l
theorem isTxtB_up (b : Nat) (l : List ByteArray) : UpB b (isTxtB l) := fun _ _ _ _ h => h
def isOddB : Value → World → Prop := fun v _ => ∃ (g : Bool) (s : ByteArray), v = .agg #[.bool g, .string s] ∧ s.size ≤ 200
theorem isOddB_up (b : Nat) : UpB b isOddB := fun _ _ _ _ h => h
theorem callPick {W w : World} {B b nb : Nat} {zs l : List Int} (hl : 1 ≤ l.length) (hl' : l.length ≤ 1000) (hC : CB W B b zs w) (h : w.heap[nb]? = some (.cells (intRow l) 3 (0, 0))) (hne : nb ≠ b) :
    Calls Tryz.prog 58 #[.pointer (some ⟨b, 0, none⟩), .slice (some ⟨nb, 0, none⟩) l.length l.length] w fun e w'' => ∃ u, e = .returned u ∧ CB W B b zs w'' ∧ GB b w w'' ∧ relR (rA (isIntB l)) w u w'' := by
  obtain ⟨q, hq⟩ := hC.2
  exact callB hC ((pick_any nb l 3 hl hl' B b zs q w hq h hne).mono fun e w' ⟨s, k', he, hm, hs, hg⟩ => ⟨_, he, ⟨s, rfl, hm⟩, ⟨k', hs⟩, hg⟩)
theorem callText {W w : World} {B b nb : Nat} {zs : List Int} {l : List ByteArray} (hl : 1 ≤ l.length) (hl' : l.length ≤ 1000) (hC : CB W B b zs w) (h : w.heap[nb]? = some (.cells (strRow l) 9 (0, 0))) (hne : nb ≠ b) :
    Calls Tryz.prog 32 #[.pointer (some ⟨b, 0, none⟩), .slice (some ⟨nb, 0, none⟩) l.length l.length] w fun e w'' => ∃ u, e = .returned u ∧ CB W B b zs w'' ∧ GB b w w'' ∧ relR (rA (isTxtB l)) w u w'' := by
  obtain ⟨q, hq⟩ := hC.2
  exact callB hC ((text_any nb l hl hl' B b zs q w hq h hne).mono fun e w' ⟨s, k', he, hm, hs, hg⟩ => ⟨_, he, ⟨s, rfl, hm⟩, ⟨k', hs⟩, hg⟩)
theorem callOdd {W w : World} {B b : Nat} {zs : List Int} (hC : CB W B b zs w) :
    Calls Tryz.prog 60 #[.pointer (some ⟨b, 0, none⟩)] w fun e w'' => ∃ u, e = .returned u ∧ CB W B b zs w'' ∧ GB b w w'' ∧ relR (rA isOddB) w u w'' := by
  obtain ⟨q, hq⟩ := hC.2
  exact callB hC ((odd_any B b zs q w hq).mono fun e w' ⟨g, s, k', he, hs1, hs2, hg⟩ => ⟨_, he, ⟨g, s, rfl, hs1⟩, ⟨k', hs2⟩, hg⟩)
/-- A new row of one promotion that fits. -/
def isPrC (b : Nat) : Value → World → Prop := fun v w => ∃ (nb : Nat) (p : Pr), v = .slice (some ⟨nb, 0, none⟩) 1 1 ∧ nb ≠ b ∧ PrOk p ∧ w.heap[nb]? = some (.cells #[.string p.rule, .int .i64 p.rank, .bool p.lit.neg, .string p.lit.name] 80 (0, 0))
theorem isPrC_up (b : Nat) : UpB b (isPrC b) := fun _ _ _ hg ⟨nb, p, h1, h2, h3, h4⟩ => ⟨nb, p, h1, h2, h3, keptB hg h2 h4⟩
theorem prC {W w : World} {B b : Nat} {zs : List Int} (hC : CB W B b zs w) (p : Pr) (hp : PrOk p) : CB W B b zs (w.alloc (.cells #[.string p.rule, .int .i64 p.rank, .bool p.lit.neg, .string p.lit.name] 80)) ∧ GB b w (w.alloc (.cells #[.string p.rule, .int .i64 p.rank, .bool p.lit.neg, .string p.lit.name] 80)) ∧
    relR (rA (isPrC b)) w (.slice (some ⟨w.heap.size, 0, none⟩) 1 1) (w.alloc (.cells #[.string p.rule, .int .i64 p.rank, .bool p.lit.neg, .string p.lit.name] 80)) := by
  obtain ⟨q, hq⟩ := hC.2
  exact ⟨hC.grown (bgrow w _), only_of_below (bgrow w _) _, ⟨_, p, rfl, by have := hq.lt; omega, hp, heap_alloc_new _ _⟩, fun h => by cases h⟩
/-- A new row of one literal named by a letter. -/
def isLtC (b n : Nat) : Value → World → Prop := fun v w => ∃ (nb m : Nat) (g : Bool), v = .slice (some ⟨nb, 0, none⟩) 1 1 ∧ nb ≠ b ∧ m < n ∧ w.heap[nb]? = some (.cells #[.bool g, .string (letter m)] 28 (0, 0))
theorem isLtC_up (b n : Nat) : UpB b (isLtC b n) := fun _ _ _ hg ⟨nb, m, g, h1, h2, h3, h4⟩ => ⟨nb, m, g, h1, h2, h3, keptB hg h2 h4⟩
theorem ltC {W w : World} {B b n m : Nat} {g : Bool} {zs : List Int} (hC : CB W B b zs w) (hm : m < n) : CB W B b zs (w.alloc (.cells #[.bool g, .string (letter m)] 28)) ∧ GB b w (w.alloc (.cells #[.bool g, .string (letter m)] 28)) ∧
    relR (rA (isLtC b n)) w (.slice (some ⟨w.heap.size, 0, none⟩) 1 1) (w.alloc (.cells #[.bool g, .string (letter m)] 28)) := by
  obtain ⟨q, hq⟩ := hC.2
  exact ⟨hC.grown (bgrow w _), only_of_below (bgrow w _) _, ⟨_, m, g, rfl, by have := hq.lt; omega, hm, heap_alloc_new _ _⟩, fun h => by cases h⟩
/-- A new row of literals named by letters. -/
def isLtsB (L b n k : Nat) : Value → World → Prop := fun v w => ∃ ys, OwnL w L v ys ∧ ys.length ≤ n ∧ Letters k ys ∧ b < L
theorem isLtsB_up (L b n k : Nat) : UpB b (isLtsB L b n k) := fun v w w' hg ⟨ys, h1, h2, h3, h4⟩ => ⟨ys, owns_kept h1 fun g e => World.grownBy.block hg g (owns_blk h1 g e).2 (fun e2 => by injection e2 with e2; have := (owns_blk h1 g e).1; omega), h2, h3, h4⟩
theorem callLits {W w : World} {B b : Nat} {zs : List Int} (n k : Nat) (hn : n ≤ 1000) (hk1 : 1 ≤ k) (hk : k ≤ 26) (hb : b < W.heap.size) (hC : CB W B b zs w) :
    Calls Tryz.prog 35 #[.pointer (some ⟨b, 0, none⟩), .int .i64 (n : Int), .int .i64 (k : Int)] w fun e w'' => ∃ u, e = .returned u ∧ CB W B b zs w'' ∧ GB b w w'' ∧ relR (rA (isLtsB W.heap.size b n k)) w u w'' := by
  obtain ⟨q, hq⟩ := hC.2
  exact callB hC ((slits2_any n k hn hk1 hk B b zs q w hq).mono fun e w' ⟨v, xs, q', he, ho, hl, hlet, hs, hg⟩ => ⟨v, he, ⟨xs, owns_le ho hC.1.size, hl, hlet, hb⟩, ⟨q', hs⟩, hg⟩)
/-- Worlds in which a row of literals may have grown in its place by one that is named by a letter. -/
def Shape (L : Nat) (vN : Value) (ys : List Lt) (w : World) : Prop := ∃ (g : Bool) (m : Nat), m < 3 ∧ OwnL w L vN (ys ++ [⟨g, letter m⟩])
def CX (W : World) (B b L : Nat) (vo : Value) (ys : List Lt) (zs : List Int) (w : World) : Prop := But b vo.ownBlock W w ∧ OwnL w L vo ys ∧ ∃ q, SrcAt w B b zs q
def GX (b L : Nat) (vo vN : Value) (ys : List Lt) (w w' : World) : Prop := But b vo.ownBlock w w' ∧ (Shape L vN ys w → Shape L vN ys w')
theorem CX.start {W : World} {B b L q : Nat} {vo : Value} {ys : List Lt} {zs : List Int} (hs : SrcAt W B b zs q) (ho : OwnL W L vo ys) : CX W B b L vo ys zs W.drew :=
  ⟨But.of (only_of_below (Below.refl _ _).drew _), owns_kept ho fun g e => (Below.refl _ _).drew.block g (owns_blk ho g e).2, q, hs.grow (only_of_below (Below.refl _ _).drew none)⟩
theorem CX.one {W : World} {B b L q : Nat} {vo : Value} {ys : List Lt} {zs : List Int} (hs : SrcAt W B b zs q) (ho : OwnL W L vo ys) : CX W B b L vo ys zs W := ⟨But.refl _ _ _, ho, q, hs⟩
/-- What moves nothing but the reader. -/
theorem CX.move {W w w' : World} {B b L : Nat} {vo vN : Value} {ys : List Lt} {zs : List Int} (hC : CX W B b L vo ys zs w) (hbL : b < L) (hg : w.grownBy w' (some b)) (hs : ∃ q, SrcAt w' B b zs q) : CX W B b L vo ys zs w' ∧ GX b L vo vN ys w w' := by
  have hk : ∀ {v : Value} {xs : List Lt}, OwnL w L v xs → OwnL w' L v xs := fun {v xs} h => owns_kept h fun g e => hg.block g (owns_blk h g e).2 (fun e2 => by injection e2 with e2; have := (owns_blk h g e).1; omega)
  exact ⟨⟨hC.1.trans (But.of hg), hk hC.2.1, hs⟩, But.of hg, fun ⟨g, m, hm, h⟩ => ⟨g, m, hm, hk h⟩⟩
def UpX (b L : Nat) (vo vN : Value) (ys : List Lt) (r : Value → World → Prop) : Prop := ∀ v w w', GX b L vo vN ys w w' → r v w → r v w'
theorem stableX_nil (C : World → Prop) (b L : Nat) (vo vN : Value) (ys : List Lt) : Stable C (GX b L vo vN ys) (relTab []) := ⟨fun _ _ h => h.1.size, fun s r h => by cases h⟩
theorem stableX_cons {C : World → Prop} {b L : Nat} {vo vN : Value} {ys : List Lt} {t : Nat} {r : RelO} {l : List (Nat × RelO)} (hr : UpX b L vo vN ys r.rel) (h : Stable C (GX b L vo vN ys) (relTab l)) : Stable C (GX b L vo vN ys) (relTab ((t, r) :: l)) := by
  refine ⟨h.1, fun s r' hs => ?_⟩
  unfold relTab at hs
  split at hs
  · injection hs with hs
    subst hs
    exact fun v w w' _ _ hg hv => hr v w w' hg hv
  · exact h.2 s r' hs
/-- A new row of one literal, apart from the reader and from the row. -/
def isLtX (b : Nat) (vo : Value) : Value → World → Prop := fun v w => ∃ (nb m : Nat) (g : Bool), v = .slice (some ⟨nb, 0, none⟩) 1 1 ∧ nb ≠ b ∧ some nb ≠ vo.ownBlock ∧ m < 3 ∧ w.heap[nb]? = some (.cells #[.bool g, .string (letter m)] 28 (0, 0))
theorem isLtX_up (b L : Nat) (vo vN : Value) (ys : List Lt) : UpX b L vo vN ys (isLtX b vo) := fun _ _ _ hg ⟨nb, m, g, h1, h2, h3, h4, h5⟩ => ⟨nb, m, g, h1, h2, h3, h4, (hg.1.block nb (lt_of_block h5) h2 h3).trans h5⟩
/-- The row, longer by one: in its place or in a new block. -/
def isApp (H b L : Nat) (vo vN : Value) (ys : List Lt) : Value → World → Prop := fun v w => (v = vN ∧ Shape L vN ys w) ∨ ∃ (gg c m : Nat) (g : Bool), v = .slice (some ⟨gg, 0, none⟩) (ys.length + 1) c ∧ H ≤ gg ∧ gg ≠ b ∧ some gg ≠ vo.ownBlock ∧ m < 3 ∧ OwnL w L v (ys ++ [⟨g, letter m⟩])
theorem isApp_up (H b L : Nat) (vo vN : Value) (ys : List Lt) : UpX b L vo vN ys (isApp H b L vo vN ys) := fun v w w' hg h => by
  rcases h with ⟨h1, h2⟩ | ⟨gg, c, m, g, h1, h2, h3, h4, h5, h6⟩
  · exact .inl ⟨h1, hg.2 h2⟩
  · exact .inr ⟨gg, c, m, g, h1, h2, h3, h4, h5, owns_kept h6 fun g' e => by
      rw [h1] at e
      injection e with e
      subst e
      exact hg.1.block _ (owns_blk h6 _ (by rw [h1]; rfl)).2 h3 h4⟩
theorem own_prefix {w : World} {L n c : Nat} {a : Option Addr} {ys : List Lt} {y : Lt} (hn : n = ys.length) (h : OwnL w L (.slice a (n + 1) c) (ys ++ [y])) : OwnL w L (.slice a n c) ys := by
  subst hn
  rcases h.2 with ⟨hv, h0⟩ | ⟨g, cap, cur, hv, hB, hg, hnc, hcm, hcs, htk⟩
  · rw [List.length_append, List.length_singleton] at h0; omega
  · injection hv with e1 e2 e3
    subst e1 e3
    rw [List.length_append, List.length_singleton] at hnc htk
    refine ⟨flatL_len ys, .inr ⟨g, c, cur, rfl, hB, hg, by omega, hcm, hcs, ?_⟩⟩
    have h1 : List.take (ys.length * 2) cur.toList = List.take (ys.length * 2) (flatL (ys ++ [y])) := by rw [← htk, List.take_take, Nat.min_eq_left (by omega)]
    rw [h1, flatL_append, List.take_append_of_le_length (by rw [flatL_len]; exact Nat.le_refl _), List.take_of_length_le (by rw [flatL_len]; exact Nat.le_refl _)]
/-- append, where its run is known. -/
theorem rel_run {C : World → Prop} {G : World → World → Prop} {r : RelO} {w : World} {o : Oper} {a : Act} {s x : Operand} {T : TypeId} (ho : o.op = .call { callee := .builtin .append, args := #[s, x], argTypes := #[T, T] }) {v u : Value} (hs : a.eval s = v) (hx : a.eval x = u) {v' : Value} {w' : World}
    (hr : (Builtin.append_ #[T, T] o.type #[v, u]).run Tryz.prog w = .ok v' w') (h : C w' ∧ G w w' ∧ relR r w v' w') : relUpon Tryz.prog C G r w ((execOp a.eval o).run Tryz.prog w) := by
  unfold execOp
  simp only [ho, resolve, invoke, builtin, Sem.run_bind, Sem.run_pure, Result.andThen_ok, List.map_toArray, List.map_cons, List.map_nil, hs, hx, hr]
  exact h
theorem run_append_where {w : World} {T e : TypeId} {k by' : Nat} (hE : ElemOf T e k by') (ty : TypeId) (B : Nat) (a : Option Addr) (n c : Nat) (xs : List Value) (hown : w.ownsRow B e k (.slice a n c) n xs)
    (m c1 : Nat) (cs : Array Value) (tm : TypeId) (hm : w.heap[m]? = some (.cells cs tm (0, 0))) (hcs : cs.size = k) (hone : ∀ u ∈ cs.toList, u.oneCell' = true) (hlen : n ≤ 1000000) (hB : B ≤ w.heap.size) :
    ∃ v' w', (Builtin.append_ #[T, T] ty #[.slice a n c, .slice (some ⟨m, 0, none⟩) 1 c1]).run Tryz.prog w = .ok v' w' ∧ w'.ownsRow B e k v' (n + 1) (xs ++ cs.toList) ∧ w.grownBy w' (Value.slice a n c).ownBlock ∧ (v' = .slice a (n + 1) c ∨ (v'.ownBlock = some w.heap.size ∧ Below w.heap.size w w')) := by
  obtain ⟨i, z, hi, hz, hk, hb, hzc⟩ := hE.info
  have hsm := hE.small
  subst hk hb
  have hl : cs.toList.length = 1 * i.size := by rw [Array.length_toList, hcs, Nat.one_mul]
  have hby : (n + 1) * i.bytes ≤ 140737488355328 := Nat.le_trans (Nat.mul_le_mul (show n + 1 ≤ 1000001 by omega) hsm) (by decide)
  obtain ⟨v', w', hr, h2, h3, h4⟩ := run_append_own (P := Tryz.prog) w B T ty e i z i.size i.bytes hE.und hi hz rfl rfl hzc hE.pos _ n xs hown ⟨m, 0, none⟩ 1 c1 _ hl (cells_news hm) hone (by unfold maxLen; omega) hby hB
  refine ⟨v', w', hr, h2, h3, ?_⟩
  rcases hown.2 with ⟨hv, h0⟩ | ⟨g, cap, cur, hv, -, hg, hnc, -, hcs2, -⟩
  · injection hv with e1 e2 e3
    subst e1 e3 h0
    have hx := run_append_nil (P := Tryz.prog) w T ty e i z hE.und hi hz ⟨m, 0, none⟩ 1 c1 _ hl (cells_news hm) (by omega) (by omega) (by have h9 := hby; simp only [Nat.zero_add] at h9; omega)
    rw [hx] at hr
    injection hr with hr hw
    rw [← hr, ← hw]
    exact .inr ⟨rfl, ⟨rfl, rfl, rfl, by simp, fun j hj => heap_alloc_old w.drew _ hj⟩⟩
  · injection hv with e1 e2 e3
    subst e1 e3
    by_cases hroom : n + 1 ≤ c
    · have hx := run_append_room (P := Tryz.prog) w T ty e i hE.und hi g n c cur hg ⟨m, 0, none⟩ 1 c1 _ hl (cells_news hm) hone hroom (by rw [hl, hcs2, ← Nat.add_mul]; exact Nat.mul_le_mul_right _ hroom)
      rw [hx] at hr
      injection hr with hr
      exact .inl hr.symm
    · have hx := run_append_grow (P := Tryz.prog) w T ty e i z hE.und hi hz ⟨g, 0, none⟩ n c xs hown.1 (hown.cells (g := g) rfl) ⟨m, 0, none⟩ 1 c1 _ hl (cells_news hm) (by omega) (by omega) (growslice_fits (by omega) hby)
      rw [hx] at hr
      injection hr with hr hw
      rw [← hr, ← hw]
      exact .inr ⟨rfl, ⟨rfl, rfl, rfl, by simp, fun j hj => heap_alloc_old w.drew _ hj⟩⟩
theorem appX {W w : World} {B b L c nb m : Nat} {g : Bool} {a : Option Addr} {ys : List Lt} {zs : List Int} {o : Oper} {act : Act} {s x : Operand} (ho : o.op = .call { callee := .builtin .append, args := #[s, x], argTypes := #[56, 56] }) (hs : act.eval s = .slice a ys.length c) (hx : act.eval x = .slice (some ⟨nb, 0, none⟩) 1 1)
    (hC : CX W B b L (.slice a ys.length c) ys zs w) (hm3 : m < 3) (hm : w.heap[nb]? = some (.cells #[.bool g, .string (letter m)] 28 (0, 0))) (hlen : ys.length ≤ 1000000) (hbL : b < L) (hLW : L ≤ W.heap.size) (hbW : b < W.heap.size) :
    relUpon Tryz.prog (CX W B b L (.slice a ys.length c) ys zs) (GX b L (.slice a ys.length c) (.slice a (ys.length + 1) c) ys) (rA (isApp W.heap.size b L (.slice a ys.length c) (.slice a (ys.length + 1) c) ys)) w ((execOp act.eval o).run Tryz.prog w) := by
  obtain ⟨hbut, hown, q, hq⟩ := hC
  obtain ⟨v', w', hr, h2, h3, h4⟩ := run_append_where elemLit o.type L a ys.length c (flatL ys) hown nb 1 #[.bool g, .string (letter m)] 28 hm rfl (one_of (by rfl)) hlen (by have := hbut.size; omega)
  have hown' : OwnL w' L v' (ys ++ [⟨g, letter m⟩]) := by
    unfold OwnL
    rw [List.length_append, List.length_singleton, flatL_append, flatL_one_lit]
    exact h2
  have hsrc : SrcAt w' B b zs q := hq.kept h3 fun g' e => by
    have h5 := (owns_blk hown g' e).1
    have h6 := hq.base
    exact ⟨by omega, by omega⟩
  refine rel_run ho hs hx hr ?_
  rcases h4 with rfl | ⟨hblk, hbel⟩
  · exact ⟨⟨hbut.trans (But.of' h3), own_prefix rfl hown', q, hsrc⟩, ⟨But.of' h3, fun _ => ⟨g, m, hm3, hown'⟩⟩, .inl ⟨rfl, g, m, hm3, hown'⟩, fun h => by cases h⟩
  · obtain ⟨gg, cc, hv'⟩ : ∃ gg cc, v' = .slice (some ⟨gg, 0, none⟩) (ys.length + 1) cc := by
      rcases h2.2 with ⟨-, h0⟩ | ⟨gg, cap, cur, hv, -⟩
      · omega
      · exact ⟨gg, cap, hv⟩
    have hgg : gg = w.heap.size := by
      rw [hv'] at hblk
      injection hblk
    have hk : ∀ {v : Value} {xs : List Lt}, OwnL w L v xs → OwnL w' L v xs := fun {v xs} h => owns_kept h fun g e => hbel.block g (owns_blk h g e).2
    exact ⟨⟨hbut.trans (But.of' h3), hk hown, q, hsrc⟩, ⟨But.of' h3, fun ⟨g, m, hm, h⟩ => ⟨g, m, hm, hk h⟩⟩, .inr ⟨gg, cc, m, g, hv', by have := hbut.size; omega, by have := hbut.size; omega, fun e => by have := (owns_blk hown gg e.symm).2; omega, hm3, hown'⟩, fun h => by cases h⟩
end Own
end Go.Proofs.YtiffcdhiejmbdaaGreatDoor
