/- keep.SpoiltBase under way: the copy. -/
import Derived.Test.YtiffcdhiejmbdaaGreatDoorZ1O

namespace Go.Proofs.YtiffcdhiejmbdaaGreatDoor
set_option linter.unusedVariables false
set_option linter.unusedSimpArgs false
open Go Go.RowKit

/-- append of an owned row to an empty one. -/
theorem run_append0o {w : World} {T e : TypeId} {k by' : Nat} (hE : ElemOf T e k by') (ty : TypeId) (B g : Nat) (hg : w.heap[g]? = some (.cells #[] e (0, 0))) (hBg : B ≤ g) {B' : Nat} {x : Value} {n : Nat} {xs : List Value} (hx : w.ownsRow B' e k x n xs)
    (h1 : ∀ u ∈ xs, u.oneCell' = true) (hn : n ≤ 1000000) :
    ∃ v' w', (Builtin.append_ #[T, T] ty #[.slice (some ⟨g, 0, none⟩) 0 0, x]).run Tryz.prog w = .ok v' w' ∧ w'.ownsRow B e k v' n xs ∧ Below w.heap.size w w' := by
  rcases hx.2 with ⟨rfl, rfl⟩ | ⟨g', cap, cur, rfl, -⟩
  · obtain ⟨i, z, hi, hz, hk, hb, hzc⟩ := hE.info
    have hxs : xs = [] := List.eq_nil_of_length_eq_zero (by simpa using hx.1)
    subst hxs
    have hown : w.ownsRow B e k (.slice (some ⟨g, 0, none⟩) 0 0) 0 [] := ⟨by simp, .inr ⟨g, 0, #[], rfl, hBg, hg, Nat.le_refl _, Nat.zero_le _, by simp, by simp⟩⟩
    exact ⟨_, w, run_append_owned_none (P := Tryz.prog) (w := w) B T ty e i k hE.und hi _ 0 [] hown, hown, Below.refl _ _⟩
  · exact run_append0 hE ty B g hg hBg ⟨g', 0, none⟩ n cap xs hx.1 (fun j u hj => by rw [addr_add0]; exact owns_cell hx rfl j u hj) h1 hn

/-- append of a body to an empty row. -/
theorem run_append0b {w : World} (ty : TypeId) (B g : Nat) (hg : w.heap[g]? = some (.cells #[] 28 (0, 0))) (hBg : B ≤ g) {S : Nat → Prop} {x : Value} {xs : List Lt} (hx : BodyIn w S x xs) (hn : xs.length ≤ 1000000) :
    ∃ v' w', (Builtin.append_ #[56, 56] ty #[.slice (some ⟨g, 0, none⟩) 0 0, x]).run Tryz.prog w = .ok v' w' ∧ OwnL w' B v' xs ∧ Below w.heap.size w w' := by
  rcases hx with ⟨rfl, rfl⟩ | ⟨b, off, cap, rfl, h2, h3, h4, -, h5⟩
  · obtain ⟨i, z, hi, hz, hk, hb, hzc⟩ := elemLit.info
    have hown : w.ownsRow B 28 2 (.slice (some ⟨g, 0, none⟩) 0 0) 0 [] := ⟨by simp, .inr ⟨g, 0, #[], rfl, hBg, hg, Nat.le_refl _, Nat.zero_le _, by simp, by simp⟩⟩
    exact ⟨_, w, run_append_owned_none (P := Tryz.prog) (w := w) B 56 ty 28 i 2 elemLit.und hi _ 0 [] hown, (show OwnL w B _ [] by unfold OwnL; rw [flatL_nil]; exact hown), Below.refl _ _⟩
  · obtain ⟨v', w', hr, ho, hb⟩ := run_append0 elemLit ty B g hg hBg ⟨b, off, none⟩ xs.length cap (flatL xs) (flatL_len xs) (fun j u hj => by
      have e : (⟨b, off, none⟩ : Addr).add j = ⟨b, off + j, none⟩ := by unfold Addr.add; split <;> simp_all
      rw [e]
      exact LitsAt.cells (fun i hi => by rw [getElem!_pos xs i hi]; exact h5 i hi) j u hj) (flat_one5 xs) hn
    exact ⟨v', w', hr, ho, hb⟩
theorem wpList_run {w : World} {ops : Array Oper} {rest : List Oper} {o : Oper} {a : Act} {Q : Exit → Act → World → Prop} (hgd : o.guard = none) (s x : Operand) {T : TypeId} (ho : o.op = .call { callee := .builtin .append, args := #[s, x], argTypes := #[T, T] }) {v u : Value} (hs : a.eval s = v) (hx : a.eval x = u)
    {v' : Value} {w' : World} (hr : (Builtin.append_ #[T, T] o.type #[v, u]).run Tryz.prog w = .ok v' w') (h : wpList Tryz.prog ops Q rest (a.put o.dst v') w') : wpList Tryz.prog ops Q (o :: rest) a w := by
  refine wpList_plain hgd fun K hK => ?_
  unfold Oper.wp execOp
  simp only [ho, resolve, invoke, builtin, Sem.run_bind, Sem.run_pure, Result.andThen_ok, List.map_toArray, List.map_cons, List.map_nil, hs, hx, hr]
  exact hK _ _ h
theorem take_succ5 {α : Type} {xs : List α} {k : Nat} (h : k < xs.length) : xs.take (k + 1) = xs.take k ++ [xs[k]] := List.take_succ_eq_append_getElem h

namespace Own
/-- A new empty row. -/
def isEmp (L : Nat) (t : TypeId) : Value → World → Prop := fun v w => ∃ g : Nat, v = .slice (some ⟨g, 0, none⟩) 0 0 ∧ L ≤ g ∧ w.heap[g]? = some (.cells #[] t (0, 0))
theorem isEmp_up (L : Nat) (t : TypeId) : GoesUp (isEmp L t) := fun _ _ _ hg ⟨g, h1, h2, h3⟩ => ⟨g, h1, h2, blk_kept2 h3 hg⟩
theorem empA {W w : World} (hC : Ext W w) (t : TypeId) : Ext W (w.alloc (.cells #[] t)) ∧ Grows w (w.alloc (.cells #[] t)) ∧ relR (rA (isEmp W.heap.size t)) w (.slice (some ⟨w.heap.size, 0, none⟩) 0 0) (w.alloc (.cells #[] t)) :=
  ⟨hC.grown (bgrow w _), bgrow w _, ⟨_, rfl, Below.size hC, heap_alloc_new _ _⟩, fun h => by cases h⟩
/-- A row of one's own. -/
def isRow5 (L : Nat) (t : TypeId) (k n : Nat) (xs : List Value) : Value → World → Prop := fun v w => w.ownsRow L t k v n xs
theorem isRow5_up (L : Nat) (t : TypeId) (k n : Nat) (xs : List Value) : GoesUp (isRow5 L t k n xs) := fun _ _ _ hg h => owns_kept h fun g e => hg.block g (owns_blk h g e).2
/-- A new box of zeros. -/
def isBox5 (L : Nat) (cs : Array Value) (t : TypeId) : Value → World → Prop := fun v w => ∃ g : Nat, v = .pointer (some ⟨g, 0, none⟩) ∧ L ≤ g ∧ w.heap[g]? = some (.cells cs t (0, 0))
theorem isBox5_up (L : Nat) (cs : Array Value) (t : TypeId) : GoesUp (isBox5 L cs t) := fun _ _ _ hg ⟨g, h1, h2, h3⟩ => ⟨g, h1, h2, blk_kept2 h3 hg⟩
theorem box5A {W w : World} (hC : Ext W w) (cs : Array Value) (t : TypeId) : Ext W (w.alloc (.cells cs t)) ∧ Grows w (w.alloc (.cells cs t)) ∧ relR (rA (isBox5 W.heap.size cs t)) w (.pointer (some ⟨w.heap.size, 0, none⟩)) (w.alloc (.cells cs t)) :=
  ⟨hC.grown (bgrow w _), bgrow w _, ⟨_, rfl, Below.size hC, heap_alloc_new _ _⟩, fun h => by cases h⟩
end Own
theorem one_pm (ps : List Pm) : ∀ u ∈ ps.flatMap encPm, u.oneCell' = true := fun u hu => by
  obtain ⟨p, -, hp⟩ := List.mem_flatMap.1 hu
  simp only [encPm, List.mem_cons, List.not_mem_nil, or_false] at hp
  rcases hp with rfl | rfl | rfl | rfl | rfl <;> rfl
theorem one_pr (ps : List Pr) : ∀ u ∈ ps.flatMap encPr, u.oneCell' = true := fun u hu => by
  obtain ⟨p, -, hp⟩ := List.mem_flatMap.1 hu
  simp only [encPr, List.mem_cons, List.not_mem_nil, or_false] at hp
  rcases hp with rfl | rfl | rfl | rfl <;> rfl

set_option maxRecDepth 100000 in
set_option maxHeartbeats 8000000 in
theorem spoiltBase_any (bs : Bs) (hok : BsOk bs) (hl1 : bs.prems.length ≤ 1000) (hl2 : bs.rules.length ≤ 1000) (hl3 : bs.proms.length ≤ 1000) (hlb : ∀ i (h : i < bs.rules.length), bs.rules[i].body.length ≤ 1000) (v : Value) (L0 B b : Nat) (zs : List Int) (k : Nat) (w : World) (h : SrcAt w B b zs k) (hv : BaseOwn w L0 v bs) :
    Calls Tryz.prog 16 #[.pointer (some ⟨b, 0, none⟩), v] w fun e w' => ∃ (v' : Value) (bs' : Bs) (q : Nat), e = .returned v' ∧ BaseOwn w' w.heap.size v' bs' ∧ SpOk bs bs' ∧ SrcAt w' B b zs q ∧ w.grownBy w' (some b) := by
  obtain ⟨pv, rv, qv, rfl, hp, hr, hq⟩ := hv
  obtain ⟨ar, cr, rfl, -, -⟩ := (show ∃ (a : Option Addr) (c : Nat), rv = .slice a bs.rules.length c ∧ bs.rules.length ≤ c ∧ c ≤ maxLen by obtain ⟨vs, -, ho, -⟩ := hr; exact shape_own ho)
  have hlt := h.lt
  have HS := hidIt h
  have hgr := bgrow2 w (.cells #[pv, .slice ar bs.rules.length cr, qv] 26) (.cells #[.slice none 0 0, .slice none 0 0, .slice none 0 0] 26)
  have hz1 := size_alloc w (.cells #[pv, .slice ar bs.rules.length cr, qv] 26)
  have HK0 := hidIt (blk_kept2 (heap_alloc_new w (.cells #[pv, .slice ar bs.rules.length cr, qv] 26)) (bgrow _ (.cells #[.slice none 0 0, .slice none 0 0, .slice none 0 0] 26)))
  have HZ0 := hidIt (heap_alloc_new (w.alloc (.cells #[pv, .slice ar bs.rules.length cr, qv] 26)) (.cells #[.slice none 0 0, .slice none 0 0, .slice none 0 0] 26))
  rw [hz1] at HZ0
  have HG0 := hidIt hgr
  have HP0 := hidIt (show OwnPm ((w.alloc (.cells #[pv, .slice ar bs.rules.length cr, qv] 26)).alloc (.cells #[.slice none 0 0, .slice none 0 0, .slice none 0 0] 26)) L0 pv bs.prems from owns_kept hp fun g e => hgr.block g (owns_blk hp g e).2)
  have HQ0 := hidIt (show OwnPr ((w.alloc (.cells #[pv, .slice ar bs.rules.length cr, qv] 26)).alloc (.cells #[.slice none 0 0, .slice none 0 0, .slice none 0 0] 26)) L0 qv bs.proms from owns_kept hq fun g e => hgr.block g (owns_blk hq g e).2)
  have HR0 := hidIt (show OwnRu ((w.alloc (.cells #[pv, .slice ar bs.rules.length cr, qv] 26)).alloc (.cells #[.slice none 0 0, .slice none 0 0, .slice none 0 0] 26)) L0 (fun k => L0 ≤ k) (.slice ar bs.rules.length cr) bs.rules from hr.kept (fun g e => hgr.block g (hr.blk g e).2) (fun k _ hl => hgr.block k hl) hgr.size (fun k hS _ => hS))
  have HW2 : Hid (((w.alloc (.cells #[pv, .slice ar bs.rules.length cr, qv] 26)).alloc (.cells #[.slice none 0 0, .slice none 0 0, .slice none 0 0] 26)).heap.size = w.heap.size + 2) := by show _ = _; rw [size_alloc, size_alloc]
  clear hp hr hq h hgr
  go_enter Tryz.func16, Tryz.ntmps16
  go_wp2_with fail
  generalize ((w.alloc (.cells #[pv, .slice ar bs.rules.length cr, qv] 26)).alloc (.cells #[.slice none 0 0, .slice none 0 0, .slice none 0 0] 26)) = w0 at *
  obtain ⟨k0, k1, k2⟩ := bcell3 HK0.out
  have lk := lt_of_block HK0.out
  have KA : ∀ wx, Ext w0 wx → wx.cell? ⟨w.heap.size, 0, none⟩ = some pv := fun wx hC => (Below.cell (p := ⟨w.heap.size, 0, none⟩) hC lk).trans k0
  have KC : ∀ wx, Ext w0 wx → wx.cell? ⟨w.heap.size, 2, none⟩ = some qv := fun wx hC => (Below.cell (p := ⟨w.heap.size, 2, none⟩) hC lk).trans k2
  haveI := Ext.nonempty w0
  refine Own.wp_region_tail 10 (Ext w0) Grows (Own.relTab [(10, Own.rA (Own.isEmp w0.heap.size 78)), (13, Own.rA (Own.isRow5 w0.heap.size 78 5 bs.prems.length (bs.prems.flatMap encPm))), (14, Own.rA (Own.isEmp w0.heap.size 80)), (17, Own.rA (Own.isRow5 w0.heap.size 80 4 bs.proms.length (bs.proms.flatMap encPr))), (5, Own.rA (Own.isBox5 w0.heap.size #[.slice none 0 0, .slice none 0 0, .slice none 0 0] 26))]) (by kernel_rfl) (by kernel_rfl) (by kernel_rfl) (by kernel_rfl) (by kernel_rfl) (by kernel_rfl) (Own.stableO_cons (Own.isEmp_up _ _) (Own.stableO_cons (Own.isRow5_up _ _ _ _ _) (Own.stableO_cons (Own.isEmp_up _ _) (Own.stableO_cons (Own.isRow5_up _ _ _ _ _) (Own.stableO_cons (Own.isBox5_up _ _ _) (Own.stableO_nil _)))))) (Ext.start w0) ?_
  simp only [Own.idleTail]
  refine Own.walkR_rel (by kernel_rfl) rfl rfl (of_decide_eq_true (by kernel_rfl)) (fun wx hC hL => ?_) (fun v hv => ?_)
  · go_simp
    exact Own.empA hC _
  obtain ⟨_, _, g10, rfl, hg10, -⟩ := hv
  simp only [Act.put, List.setIfInBounds_toArray, List.set_cons_zero, List.set_cons_succ]
  repeat (
    refine' Own.walkR_plain (by kernel_rfl) rfl rfl (fun wx hC hL => ?_) ?_
    rotate_left
    · (have hlw := Nat.lt_of_lt_of_le lk (Below.size hC)
       simp only [KA wx hC, hlw, go_sem]; first | done | (go_simp; exact ⟨rfl, rfl⟩))
    simp only [Act.put, List.setIfInBounds_toArray, List.set_cons_zero, List.set_cons_succ])
  refine Own.walkR_rel (by kernel_rfl) rfl rfl (of_decide_eq_true (by kernel_rfl)) (fun wx hC hL => ?_) (fun v hv => ?_)
  · obtain ⟨g', e', hge, hg'⟩ : Own.isEmp w0.heap.size 78 (.slice (some ⟨g10, 0, none⟩) 0 0) wx := hL.get 10 (by simp [Own.more]) (by kernel_rfl) rfl rfl
    injection e' with e'
    injection e' with e'
    injection e' with e'
    subst e'
    obtain ⟨v', w', hrun, ho, hb⟩ := run_append0o elemPm 22 w0.heap.size g10 hg' hge (owns_kept HP0.out (w' := wx) fun g e => Below.block hC g (owns_blk HP0.out g e).2) (one_pm _) (by omega)
    exact Own.rel_run rfl rfl rfl hrun ⟨hC.grown hb, hb, ho, fun h => by cases h⟩
  obtain ⟨wq, _, hv13⟩ := hv
  obtain ⟨ap, cp, rfl, -, -⟩ := shape_own hv13
  clear hv13
  simp only [Act.put, List.setIfInBounds_toArray, List.set_cons_zero, List.set_cons_succ]
  refine Own.walkR_rel (by kernel_rfl) rfl rfl (of_decide_eq_true (by kernel_rfl)) (fun wx hC hL => ?_) (fun v hv => ?_)
  · go_simp
    exact Own.empA hC _
  obtain ⟨_, _, g14, rfl, hg14, -⟩ := hv
  simp only [Act.put, List.setIfInBounds_toArray, List.set_cons_zero, List.set_cons_succ]
  repeat (
    refine' Own.walkR_plain (by kernel_rfl) rfl rfl (fun wx hC hL => ?_) ?_
    rotate_left
    · (have hlw := Nat.lt_of_lt_of_le lk (Below.size hC)
       simp only [KC wx hC, hlw, go_sem]; first | done | (go_simp; exact ⟨rfl, rfl⟩))
    simp only [Act.put, List.setIfInBounds_toArray, List.set_cons_zero, List.set_cons_succ])
  refine Own.walkR_rel (by kernel_rfl) rfl rfl (of_decide_eq_true (by kernel_rfl)) (fun wx hC hL => ?_) (fun v hv => ?_)
  · obtain ⟨g', e', hge, hg'⟩ : Own.isEmp w0.heap.size 80 (.slice (some ⟨g14, 0, none⟩) 0 0) wx := hL.get 14 (by simp [Own.more]) (by kernel_rfl) rfl rfl
    injection e' with e'
    injection e' with e'
    injection e' with e'
    subst e'
    obtain ⟨v', w', hrun, ho, hb⟩ := run_append0o elemPr 24 w0.heap.size g14 hg' hge (owns_kept HQ0.out (w' := wx) fun g e => Below.block hC g (owns_blk HQ0.out g e).2) (one_pr _) (by omega)
    exact Own.rel_run rfl rfl rfl hrun ⟨hC.grown hb, hb, ho, fun h => by cases h⟩
  obtain ⟨wq, _, hv17⟩ := hv
  obtain ⟨aq, cq, rfl, -, -⟩ := shape_own hv17
  clear hv17
  simp only [Act.put, List.setIfInBounds_toArray, List.set_cons_zero, List.set_cons_succ]
  repeat (
    refine' Own.walkR_plain (by kernel_rfl) rfl rfl (fun wx hC hL => ?_) ?_
    rotate_left
    · (go_simp; exact ⟨rfl, rfl⟩)
    simp only [Act.put, List.setIfInBounds_toArray, List.set_cons_zero, List.set_cons_succ])
  refine Own.walkR_rel (by kernel_rfl) rfl rfl (of_decide_eq_true (by kernel_rfl)) (fun wx hC hL => ?_) (fun v hv => ?_)
  · go_simp
    exact Own.box5A hC _ _
  obtain ⟨_, _, R, rfl, hRg, -⟩ := hv
  simp only [Act.put, List.setIfInBounds_toArray, List.set_cons_zero, List.set_cons_succ]
  refine Own.walkR_idle (fun wx hC => Below.refl _ _) ?_
  refine fun w2 hC2 hK => ?_
  have h13 : Own.isRow5 w0.heap.size 78 5 bs.prems.length (bs.prems.flatMap encPm) (.slice ap bs.prems.length cp) w2 := hK.get 13 (by simp [Own.more]) rfl rfl
  have h17 : Own.isRow5 w0.heap.size 80 4 bs.proms.length (bs.proms.flatMap encPr) (.slice aq bs.proms.length cq) w2 := hK.get 17 (by simp [Own.more]) rfl rfl
  obtain ⟨R', eR, hR1, hRb⟩ : Own.isBox5 w0.heap.size #[.slice none 0 0, .slice none 0 0, .slice none 0 0] 26 (.pointer (some ⟨R, 0, none⟩)) w2 := hK.get 5 (by simp [Own.more]) rfl rfl
  injection eR with eR
  injection eR with eR
  injection eR with eR
  subst eR
  have HC2 : Hid (Below w0.heap.size w0 w2) := hC2
  clear hK hC2 KA KC k0 k1 k2 lk
  simp only [List.drop_succ_cons, List.drop_zero]
  have f0 := free_any hRb 0
  have f1 := free_any hRb 1
  have f2 := free_any hRb 2
  obtain ⟨z0, z1, z2⟩ := bcell3 hRb
  have lR := lt_of_block hRb
  go_upto_region 2 with (fail)
  have HB3 : Hid (Below w0.heap.size w0 (((w2.setCell ⟨R, 0, none⟩ (.slice ap bs.prems.length cp)).setCell ⟨R, 1, none⟩ (.slice none 0 0)).setCell ⟨R, 2, none⟩ (.slice aq bs.proms.length cq))) := below_set5 (below_set5 (below_set5 HC2.out hR1) hR1) hR1
  have HSP : Hid (Sp w B b zs R (((w2.setCell ⟨R, 0, none⟩ (.slice ap bs.prems.length cp)).setCell ⟨R, 1, none⟩ (.slice none 0 0)).setCell ⟨R, 2, none⟩ (.slice aq bs.proms.length cq)) k ⟨bs.prems, bs.rules.take 0, bs.proms⟩ (.slice ap bs.prems.length cp) (.slice none 0 0) (.slice aq bs.proms.length cq) []) := by
    have hw2 := HW2.out
    have hB := HS.out.base
    have hset : ∀ j, j ≠ R → (((w2.setCell ⟨R, 0, none⟩ (.slice ap bs.prems.length cp)).setCell ⟨R, 1, none⟩ (.slice none 0 0)).setCell ⟨R, 2, none⟩ (.slice aq bs.proms.length cq)).heap[j]? = w2.heap[j]? := fun j hj => by
      rw [Below.heap_setCell _ ⟨R, 2, none⟩ _ j (by show j ≠ R; exact hj), Below.heap_setCell _ ⟨R, 1, none⟩ _ j (by show j ≠ R; exact hj), Below.heap_setCell _ ⟨R, 0, none⟩ _ j (by show j ≠ R; exact hj)]
    have h13' : w2.ownsRow (w.heap.size + 2) 78 5 (.slice ap bs.prems.length cp) bs.prems.length (bs.prems.flatMap encPm) := by rw [← hw2]; exact h13
    have h17' : w2.ownsRow (w.heap.size + 2) 80 4 (.slice aq bs.proms.length cq) bs.proms.length (bs.proms.flatMap encPr) := by rw [← hw2]; exact h17
    refine ⟨set_cells (set_cells (set_cells hRb)), (hset _ (by omega)).trans ((HC2.out.block _ (by omega)).trans HZ0.out), by omega, owns_kept h13' fun g e => hset g ?_, owns_kept h17' fun g e => hset g ?_, rfl, World.ownsRow_nil _ _ _ _, fun i hi => by simp at hi, fun i j hi => by simp at hi, ?_, ?_, hlt⟩
    · obtain ⟨c, hc⟩ := owns_tag h13' e
      exact tag_ne hc hRb (by decide)
    · obtain ⟨c, hc⟩ := owns_tag h17' e
      exact tag_ne hc hRb (by decide)
    · exact (((((HS.out.grow (only_of_below HG0.out none)).grow (only_of_below (Below.mono HC2.out (Nat.le_refl _)) none)).setCell ⟨R, 0, none⟩ _ (by show B ≤ R; omega) (by show R ≠ b; omega)).setCell ⟨R, 1, none⟩ _ (by show B ≤ R; omega) (by show R ≠ b; omega)).setCell ⟨R, 2, none⟩ _ (by show B ≤ R; omega) (by show R ≠ b; omega))
    · exact only_setCell (only_setCell (only_setCell (only_of_below (HG0.out.trans (HC2.out.mono (by omega))) (some b)) (p := ⟨R, 0, none⟩) (.inr (by show w.heap.size ≤ R; omega)) _) (p := ⟨R, 1, none⟩) (.inr (by show w.heap.size ≤ R; omega)) _) (p := ⟨R, 2, none⟩) (.inr (by show w.heap.size ≤ R; omega)) _
  clear f0 f1 f2 z0 z1 z2 lR h13 h17 hRb HC2
  generalize (((w2.setCell ⟨R, 0, none⟩ (.slice ap bs.prems.length cp)).setCell ⟨R, 1, none⟩ (.slice none 0 0)).setCell ⟨R, 2, none⟩ (.slice aq bs.proms.length cq)) = w3 at *
  have hk3 := blk_kept2 HK0.out HB3.out
  obtain ⟨k0, k1, k2⟩ := bcell3 hk3
  have lk := lt_of_block hk3
  clear hk3
  go_wp2_with fail
  clear k0 k1 k2 lk
  go_loopw [22] (fun i wr => ∃ (m : Nat) (rv : Value) (vs : List Value), m ≤ bs.rules.length ∧ i = .int .i64 m ∧ Hid (Sp w B b zs R wr k ⟨bs.prems, bs.rules.take m, bs.proms⟩ (.slice ap bs.prems.length cp) rv (.slice aq bs.proms.length cq) vs) ∧ Hid (Below w0.heap.size w0 wr)) (fun i _ => bs.rules.length - (intOf i).toNat)
  case atStart => exact ⟨0, _, [], Nat.zero_le _, rfl, HSP.out, HB3.out⟩
  case round =>
    clear HSP HB3
    obtain ⟨m, rv, vs, hm, rfl, HSP, HBr⟩ := hrel
    have hmt : (bs.rules.take m).length = m := by rw [List.length_take]; omega
    obtain ⟨rt, hrt⟩ : ∃ rt, bs.rules.take m = rt := ⟨_, rfl⟩
    rw [hrt] at HSP hmt
    have HRT := hidIt hrt
    clear hrt
    have hrl : rt.length ≤ 1000 := by omega
    clear hmt
    obtain ⟨ar', cr', rfl, -, -⟩ := shape_own HSP.out.r5
    simp only at HSP
    by_cases hml : m < bs.rules.length
    · have hmI : (m : Int) < (bs.rules.length : Int) := by omega
      have hm0 : (0 : Int) ≤ (m : Int) := by omega
      obtain ⟨gr, bv, rfl, hgB, hgl, x0', x1', x2', x3', x4', x5', hbd⟩ := OwnRu.cell6 HR0.out m hml
      have x0 := (HBr.out.cell (p := ⟨gr, m * 6, none⟩) hgl).trans x0'
      have x1 := (HBr.out.cell (p := ⟨gr, m * 6 + 1, none⟩) hgl).trans x1'
      have x2 := (HBr.out.cell (p := ⟨gr, m * 6 + 2, none⟩) hgl).trans x2'
      have x3 := (HBr.out.cell (p := ⟨gr, m * 6 + 3, none⟩) hgl).trans x3'
      have x4 := (HBr.out.cell (p := ⟨gr, m * 6 + 4, none⟩) hgl).trans x4'
      have x5 := (HBr.out.cell (p := ⟨gr, m * 6 + 5, none⟩) hgl).trans x5'
      have hgl2 := Nat.lt_of_lt_of_le hgl HBr.out.size
      have HBD := hidIt (hbd.kept (S' := fun _ => True) (fun k _ hl => HBr.out.block k hl) HBr.out.size (fun _ _ _ => trivial))
      have hbl := hlb m hml
      have HTS : Hid (bs.rules.take (m + 1) = rt ++ [bs.rules[m]]) := by show _ = _; rw [take_succ5 hml, HRT.out]
      obtain ⟨av, nv, cv, rfl⟩ : ∃ (a : Option Addr) (n c : Nat), bv = .slice a n c := by
        rcases hbd with ⟨h, -⟩ | ⟨_, _, _, h, -⟩
        · exact ⟨_, _, _, h⟩
        · exact ⟨_, _, _, h⟩
      clear x0' x1' x2' x3' x4' x5' hbd
      generalize bs.rules[m] = ru at *
      obtain ⟨nm, st, rk, xs, ⟨hg, hn⟩⟩ := ru
      simp only at x0 x1 x2 x3 x4 x5 hbl HBD
      go_wp2_with (at_builtin; refine Hid.out ?_)
      refine hidIt ?_
      have hsz := HSP.out.size
      have hwt := HBr.out.size
      have hg1 := bgrow2 wr (.cells #[.string nm, .bool st, .int .i64 rk, .slice av nv cv, .bool hg, .string hn] 72) (.cells #[] 28)
      have hP1 := blk_kept2 (heap_alloc_new wr (.cells #[.string nm, .bool st, .int .i64 rk, .slice av nv cv, .bool hg, .string hn] 72)) (bgrow (wr.alloc (.cells #[.string nm, .bool st, .int .i64 rk, .slice av nv cv, .bool hg, .string hn] 72)) (.cells #[] 28))
      have hE1 := heap_alloc_new (wr.alloc (.cells #[.string nm, .bool st, .int .i64 rk, .slice av nv cv, .bool hg, .string hn] 72)) (.cells #[] 28)
      have hz2 := size_alloc wr (.cells #[.string nm, .bool st, .int .i64 rk, .slice av nv cv, .bool hg, .string hn] 72)
      rw [hz2] at hE1
      obtain ⟨vb, w5, hrun, hown5, hb5⟩ := run_append0b 56 wr.heap.size (wr.heap.size + 1) hE1 (by omega) (HBD.out.kept (S' := fun _ => True) (fun k _ hl => hg1.block k hl) hg1.size (fun _ _ _ => trivial)) (by omega)
      obtain ⟨ab, cb, rfl, hyc, hcb, -⟩ := hown5.form5
      refine wpList_run rfl _ _ rfl rfl rfl hrun ?_
      have HB5 := hidIt (hg1.trans (Below.mono hb5 hg1.size))
      have HP5 := hidIt (blk_kept2 hP1 hb5)
      have HOW := hidIt hown5
      clear hrun hown5 hb5 hg1 hP1 hE1 hz2 x0 x1 x2 x3 x4 x5
      have HS5 := hidIt (HSP.out.more HB5.out)
      have f5 := free_any HP5.out 3
      have l5 := lt_of_block HP5.out
      obtain ⟨t0, t1, t2, t3, t4, t5⟩ := bcell6 HP5.out
      go_upto_region 6 with (fail)
      clear t0 t1 t2 t3 t4 t5
      have HB6 := hidIt (below_set5 HB5.out (Nat.le_refl _) (i := 3) (u := .slice ab xs.length cb))
      have hP6 := set_cells (i := 3) (u := .slice ab xs.length cb) HP5.out
      have HO6 : Hid (OwnL (w5.setCell ⟨wr.heap.size, 3, none⟩ (.slice ab xs.length cb)) wr.heap.size (.slice ab xs.length cb) xs) := owns_kept HOW.out fun g e => Below.heap_setCell w5 ⟨wr.heap.size, 3, none⟩ _ g (by obtain ⟨c, hc⟩ := owns_tag HOW.out e; exact tag_ne hc HP5.out (by decide))
      clear f5 l5 HP5 HOW HS5 HB5
      generalize (w5.setCell ⟨wr.heap.size, 3, none⟩ (.slice ab xs.length cb)) = w6 at *
      have HS6 := hidIt (HSP.out.more HB6.out)
      have HP6 : Hid (w6.heap[wr.heap.size]? = some (.cells #[.string nm, .bool st, .int .i64 rk, .slice ab xs.length cb, .bool hg, .string hn] 72 (0, 0))) := hP6
      clear hP6
      obtain ⟨y0, y1, y2, y3, y4, y5⟩ := bcell6 HP6.out
      have ly := lt_of_block HP6.out
      obtain ⟨b0, b1, b2⟩ := bcell3 HS6.out.box
      have lb := lt_of_block HS6.out.box
      go_wp2_with (at_builtin; refine Hid.out ?_)
      refine hidIt ?_
      have hgr7 := bgrow w6 (.cells #[.string nm, .bool st, .int .i64 rk, .slice ab xs.length cb, .bool hg, .string hn] 72)
      have HS7 := hidIt (HS6.out.more hgr7)
      have hr7 := HS7.out.r5
      have hsz7 := HS7.out.size
      have HAP : Hid (∀ j (hj : j < vs.length) g, (Value.slice ab xs.length cb).ownBlock = some g → vs[j].ownBlock ≠ some g) := fun j hj g e1 e2 => by
        have h1 := (owns_blk HO6.out g e1).1
        have h2 := (owns_blk (HSP.out.bod j (by rw [← HSP.out.len]; exact hj) hj) g e2).2
        omega
      have HOB : Hid (OwnL (w6.alloc (.cells #[.string nm, .bool st, .int .i64 rk, .slice ab xs.length cb, .bool hg, .string hn] 72)) (w.heap.size + 2) (.slice ab xs.length cb) xs) := owns_le (owns_kept HO6.out fun g e => hgr7.block g (owns_blk HO6.out g e).2) hsz
      have HB7 := hidIt (HBr.out.trans (Below.mono (HB6.out.trans (hgr7.mono HB6.out.size)) HBr.out.size))
      refine wpList_append_kb rfl _ _ elemRu rfl (w.heap.size + 2) (.slice ar' rt.length cr') rt.length _ rfl hr7 _ 1 rfl #[.string nm, .bool st, .int .i64 rk, .slice ab xs.length cb, .bool hg, .string hn] 72 (heap_alloc_new _ _) rfl (one_of (by rfl)) (by omega) (by omega) ?_
      intro g8 c8 w8 hown8 hg8 hbl8
      have HS8 := hidIt (HS7.out.addR (r := ⟨nm, st, rk, xs, ⟨hg, hn⟩⟩) hown8 hg8 HOB.out HAP.out)
      have HRB : Hid (∀ gg, (Value.slice ar' rt.length cr').ownBlock = some gg → w.heap.size + 2 ≤ gg) := fun gg e => (owns_blk HS7.out.r5 gg e).1
      have hb8 := (hg8.block R (lt_of_block HS7.out.box) (fun e => by obtain ⟨c, hc⟩ := owns_tag HS7.out.r5 e.symm; exact tag_ne HS7.out.box hc (by decide) rfl)).trans HS7.out.box
      have HB8 : Hid (Below w0.heap.size w0 (w8.setCell ⟨R, 1, none⟩ (.slice (some ⟨g8, 0, none⟩) (rt.length + 1) c8))) := below_set5 (below_app5 HB7.out hg8 (fun gg e => by rw [HW2.out]; exact HRB.out gg e) HB7.out.size) hR1
      obtain ⟨q0, q1, q2⟩ := bcell3 hb8
      have f8 := free_any hb8 1
      have l8 := lt_of_block hb8
      clear hown8 hg8 hbl8 hb8 hgr7 hr7 y0 y1 y2 y3 y4 y5 ly b0 b1 b2 lb
      go_wp2_with fail
      go_roundw
      case rel => exact ⟨m + 1, _, vs ++ [.slice ab xs.length cb], by omega, by go_num, (by show Sp _ _ _ _ _ _ _ _ _ _ _ _; rw [HTS.out]; exact HS8.out), HB8.out⟩
      case measure => simp [intOf]; omega
    · obtain rfl : m = bs.rules.length := by omega
      have HSQ : Hid (Sp w B b zs R wr k bs (.slice ap bs.prems.length cp) (.slice ar' bs.rules.length cr') (.slice aq bs.proms.length cq) vs) := by
        have h1 := HSP.out
        have h2 := HRT.out
        rw [List.take_length] at h2
        subst h2
        exact h1
      clear HSP HBr hml HP0 HQ0 HR0 HK0 HZ0 HG0 HS
      go_upto_region 8 with (fail)
      obtain ⟨b0, b1, b2⟩ := bcell3 HSQ.out.box
      have lb := lt_of_block HSQ.out.box
      go_wp2_with fail
      refine (snz_any bs.prems.length (by omega) B b zs k _ HSQ.out.src).mono ?_
      rintro e w1 ⟨i1, q1, rfl, hi1, -, hs1, hg1⟩
      have HS1 := hidIt (HSQ.out.call hs1 hg1)
      have HI1 := hidIt hi1
      clear hs1 hg1 HSQ b0 b1 b2 lb hi1
      go_upto_region 9 with (fail)
      go_cut [51] from 43 to 51 (fun c wx => ∃ (cc : Bool) (qx : Nat), c = .bool cc ∧ Sp w B b zs R wx qx bs (.slice ap bs.prems.length cp) (.slice ar' bs.rules.length cr') (.slice aq bs.proms.length cq) vs ∧ (cc = true → 0 < bs.prems.length))
      case first =>
        obtain ⟨b0, b1, b2⟩ := bcell3 HS1.out.box
        have lb := lt_of_block HS1.out.box
        by_cases h0 : 0 < bs.prems.length
        · have h0I : (0 : Int) < (bs.prems.length : Int) := by omega
          have HH := hidIt h0
          clear h0
          go_wp2_with fail
          refine (sn_nat 3 (by omega) (by omega) B b zs q1 _ HS1.out.src).mono ?_
          rintro e w2 ⟨m3, q2, rfl, hm3, hs2, hg2⟩
          have HS2 := hidIt (HS1.out.call hs2 hg2)
          clear hs2 hg2
          by_cases h3 : m3 = 0
          · subst h3
            go_wp2_with fail
            go_meet
            exact ⟨true, q2, rfl, HS2.out, fun _ => HH.out⟩
          · have h3b : ((m3 : Int) == 0) = false := beq_eq_false_iff_ne.2 (by omega)
            go_wp2_with fail
            go_meet
            exact ⟨false, q2, rfl, HS2.out, fun h => by cases h⟩
        · have h0I : ¬ (0 : Int) < (bs.prems.length : Int) := by omega
          clear h0
          go_wp2_with fail
          go_meet
          exact ⟨false, q1, rfl, HS1.out, fun h => by cases h⟩
      case rest =>
        obtain ⟨cc, qx, rfl, hspx, hpos⟩ := hcut
        have HSX := hidIt hspx
        clear hspx HS1
        cases cc
        · clear hpos HI1
          obtain ⟨b0, b1, b2⟩ := bcell3 HSX.out.box
          have lb := lt_of_block HSX.out.box
          go_wp2_with fail
          refine (snz_any bs.rules.length (by omega) B b zs qx _ HSX.out.src).mono ?_
          rintro e w1 ⟨i2, q1, rfl, hi2, -, hs1, hg1⟩
          have HS1 := hidIt (HSX.out.call hs1 hg1)
          have HI2 := hidIt hi2
          clear hs1 hg1 HSX b0 b1 b2 lb hi2
          go_upto_region 22 with (fail)
          go_cut [117] from 109 to 117 (fun c wx => ∃ (cc : Bool) (qx : Nat), c = .bool cc ∧ Sp w B b zs R wx qx bs (.slice ap bs.prems.length cp) (.slice ar' bs.rules.length cr') (.slice aq bs.proms.length cq) vs ∧ (cc = true → 0 < bs.rules.length))
          case first =>
            obtain ⟨b0, b1, b2⟩ := bcell3 HS1.out.box
            have lb := lt_of_block HS1.out.box
            by_cases h0 : 0 < bs.rules.length
            · have h0I : (0 : Int) < (bs.rules.length : Int) := by omega
              have HH := hidIt h0
              clear h0
              go_wp2_with fail
              refine (sn_nat 3 (by omega) (by omega) B b zs q1 _ HS1.out.src).mono ?_
              rintro e w2 ⟨m3, q2, rfl, hm3, hs2, hg2⟩
              have HS2 := hidIt (HS1.out.call hs2 hg2)
              clear hs2 hg2
              by_cases h3 : m3 = 0
              · subst h3
                go_wp2_with fail
                go_meet
                exact ⟨false, q2, rfl, HS2.out, fun h => by cases h⟩
              · have h3b : (0 : Int) < (m3 : Int) := by omega
                go_wp2_with fail
                go_meet
                exact ⟨true, q2, (by rw [decide_eq_true (show 0 < m3 by omega)]), HS2.out, fun _ => HH.out⟩
            · have h0I : ¬ (0 : Int) < (bs.rules.length : Int) := by omega
              clear h0
              go_wp2_with fail
              go_meet
              exact ⟨false, q1, rfl, HS1.out, fun h => by cases h⟩
          case rest =>
            obtain ⟨cc, qy, rfl, hspx, hpos⟩ := hcut
            have HSX := hidIt hspx
            clear hspx HS1
            cases cc
            · clear hpos HI2
              go_upto_region 38 with (fail)
              obtain ⟨b0, b1, b2⟩ := bcell3 HSX.out.box
              have lb := lt_of_block HSX.out.box
              have hRb : R ≠ b := by have := HSX.out.lo; have := HSX.out.lt; omega
              have KB : ∀ wx, Own.CB wc B b zs wx → wx.cell? ⟨R, 2, none⟩ = some (.slice aq bs.proms.length cq) := fun wx hC => hC.cell b2 hRb
              haveI : Nonempty (In (Own.CB wc B b zs)) := ⟨⟨wc, Own.CB.one _ _ _ _ _ HSX.out.src⟩⟩
              refine Own.wp_region_tail 12 (Own.CB wc B b zs) (Own.GB b) (Own.relTab [(203, Own.rA (Own.isRowB b (strRow [⟨#[114, 97]⟩, ⟨#[114, 98]⟩, ⟨#[120]⟩, ⟨#[]⟩]) 4 9)), (204, Own.rA (Own.isTxtB [⟨#[114, 97]⟩, ⟨#[114, 98]⟩, ⟨#[120]⟩, ⟨#[]⟩])), (206, Own.rA (Own.isRowB b (intRow [-1, 0, 9, 10]) 4 3)), (207, Own.rA (Own.isIntB [-1, 0, 9, 10])), (209, Own.rA (Own.isLtr 3)), (211, Own.rA (Own.isPrC b))]) (by kernel_rfl) (by kernel_rfl) (by kernel_rfl) (by kernel_rfl) (by kernel_rfl) (by kernel_rfl) (Own.stableB_cons (Own.isRowB_up _ _ _ _) (Own.stableB_cons (Own.isTxtB_up _ _) (Own.stableB_cons (Own.isRowB_up _ _ _ _) (Own.stableB_cons (Own.isIntB_up _ _) (Own.stableB_cons (Own.isLtr_up _ _) (Own.stableB_cons (Own.isPrC_up _) (Own.stableB_nil _ _))))))) (Own.CB.start HSX.out.src) ?_
              simp only [Own.idleTail]
              repeat (
                refine' Own.walkR_plain (by kernel_rfl) rfl rfl (fun wx hC hL => ?_) ?_
                rotate_left
                · (have hlw := hC.1.size
                   have hlw1 := Nat.lt_of_lt_of_le lb hlw
                   simp only [KB wx hC, hlw1, go_sem]; first | done | (go_simp; exact ⟨rfl, rfl⟩))
                simp only [Act.put, List.setIfInBounds_toArray, List.set_cons_zero, List.set_cons_succ])
              refine Own.walkR_rel (by kernel_rfl) rfl rfl (of_decide_eq_true (by kernel_rfl)) (fun wx hC hL => ?_) (fun v hv => ?_)
              · go_simp
                exact Own.rowB hC _ _ _
              obtain ⟨_, _, nb, rfl, hnb, -⟩ := hv
              simp only [Act.put, List.setIfInBounds_toArray, List.set_cons_zero, List.set_cons_succ]
              refine Own.walkR_rel (by kernel_rfl) rfl rfl (of_decide_eq_true (by kernel_rfl)) (fun wx hC hL => ?_) (fun v hv => ?_)
              · obtain ⟨nb', e', hne', hrow⟩ : Own.isRowB b (strRow [⟨#[114, 97]⟩, ⟨#[114, 98]⟩, ⟨#[120]⟩, ⟨#[]⟩]) 4 9 (.slice (some ⟨nb, 0, none⟩) 4 4) wx := hL.get 203 (by simp [Own.more]) (by kernel_rfl) rfl rfl
                injection e' with e'
                injection e' with e'
                injection e' with e'
                subst e'
                go_simp
                exact Own.callText (l := [⟨#[114, 97]⟩, ⟨#[114, 98]⟩, ⟨#[120]⟩, ⟨#[]⟩]) (by decide) (by decide) hC hrow hne'
              obtain ⟨_, _, s9, rfl, hs9⟩ := hv
              have hs9' : s9.size ≤ maxLen := Nat.le_trans (le12 (by decide) _ hs9) (by unfold maxLen; omega)
              simp only [Act.put, List.setIfInBounds_toArray, List.set_cons_zero, List.set_cons_succ]
              repeat (
                refine' Own.walkR_plain (by kernel_rfl) rfl rfl (fun wx hC hL => ?_) ?_
                rotate_left
                · (have hlw := hC.1.size
                   have hlw1 := Nat.lt_of_lt_of_le lb hlw
                   simp only [KB wx hC, hlw1, go_sem]; first | done | (go_simp; exact ⟨rfl, rfl⟩))
                simp only [Act.put, List.setIfInBounds_toArray, List.set_cons_zero, List.set_cons_succ])
              refine Own.walkR_rel (by kernel_rfl) rfl rfl (of_decide_eq_true (by kernel_rfl)) (fun wx hC hL => ?_) (fun v hv => ?_)
              · go_simp
                exact Own.rowB hC _ _ _
              obtain ⟨_, _, nb, rfl, hnb, -⟩ := hv
              simp only [Act.put, List.setIfInBounds_toArray, List.set_cons_zero, List.set_cons_succ]
              refine Own.walkR_rel (by kernel_rfl) rfl rfl (of_decide_eq_true (by kernel_rfl)) (fun wx hC hL => ?_) (fun v hv => ?_)
              · obtain ⟨nb', e', hne', hrow⟩ : Own.isRowB b (intRow [-1, 0, 9, 10]) 4 3 (.slice (some ⟨nb, 0, none⟩) 4 4) wx := hL.get 206 (by simp [Own.more]) (by kernel_rfl) rfl rfl
                injection e' with e'
                injection e' with e'
                injection e' with e'
                subst e'
                go_simp
                exact Own.callPick (l := [-1, 0, 9, 10]) (by decide) (by decide) hC hrow hne'
              obtain ⟨_, _, z9, rfl, hz9⟩ := hv
              have hz9' : I64 z9 := by simp at hz9; unfold I64; omega
              simp only [Act.put, List.setIfInBounds_toArray, List.set_cons_zero, List.set_cons_succ]
              repeat (
                refine' Own.walkR_plain (by kernel_rfl) rfl rfl (fun wx hC hL => ?_) ?_
                rotate_left
                · (have hlw := hC.1.size
                   have hlw1 := Nat.lt_of_lt_of_le lb hlw
                   simp only [KB wx hC, hlw1, go_sem]; first | done | (go_simp; exact ⟨rfl, rfl⟩))
                simp only [Act.put, List.setIfInBounds_toArray, List.set_cons_zero, List.set_cons_succ])
              refine Own.walkR_rel (by kernel_rfl) rfl rfl (of_decide_eq_true (by kernel_rfl)) (fun wx hC hL => ?_) (fun v hv => ?_)
              · go_simp
                exact Own.callLit 3 (by omega) (by omega) hC
              obtain ⟨_, _, lg, lm, rfl, hlm⟩ := hv
              simp only [Act.put, List.setIfInBounds_toArray, List.set_cons_zero, List.set_cons_succ]
              repeat (
                refine' Own.walkR_plain (by kernel_rfl) rfl rfl (fun wx hC hL => ?_) ?_
                rotate_left
                · (have hlw := hC.1.size
                   have hlw1 := Nat.lt_of_lt_of_le lb hlw
                   simp only [KB wx hC, hlw1, go_sem]; first | done | (go_simp; exact ⟨rfl, rfl⟩))
                simp only [Act.put, List.setIfInBounds_toArray, List.set_cons_zero, List.set_cons_succ])
              refine Own.walkR_rel (by kernel_rfl) rfl rfl (of_decide_eq_true (by kernel_rfl)) (fun wx hC hL => ?_) (fun v hv => ?_)
              · go_simp
                exact Own.prC hC ⟨s9, z9, ⟨lg, letter lm⟩⟩ ⟨hs9', hz9', by rw [show (letter lm).size = 1 from rfl]; unfold maxLen; omega⟩
              obtain ⟨_, _, b48, -, rfl, -⟩ := hv
              simp only [Act.put, List.setIfInBounds_toArray, List.set_cons_zero, List.set_cons_succ]
              refine Own.walkR_idle (fun wx hC => only_refl _ _) ?_
              refine Own.walkR_idle (fun wx hC => only_refl _ _) ?_
              refine Own.walkR_idle (fun wx hC => only_refl _ _) ?_
              refine fun w9 hC9 hK => ?_
              obtain ⟨nb4, p4, e48, hne48, hok4, h48⟩ : Own.isPrC b (.slice (some ⟨b48, 0, none⟩) 1 1) w9 := hK.get 211 (by simp [Own.more]) rfl rfl
              injection e48 with e48
              injection e48 with e48
              injection e48 with e48
              subst e48
              obtain ⟨hg9, q9, hs9⟩ := hC9
              have HS9 := hidIt (HSX.out.call hs9 hg9)
              have H48 := hidIt h48
              have HOK4 := hidIt hok4
              clear hK hg9 hs9 h48 hok4 KB b0 b1 b2 lb HSX
              simp only [List.drop_succ_cons, List.drop_zero]
              have hsz9 := HS9.out.size
              refine wpList_append_kb rfl _ _ elemPr rfl (w.heap.size + 2) (.slice aq bs.proms.length cq) bs.proms.length (bs.proms.flatMap encPr) rfl HS9.out.q5 b48 1 rfl #[.string p4.rule, .int .i64 p4.rank, .bool p4.lit.neg, .string p4.lit.name] 80 H48.out rfl (one_of (by rfl)) (by omega) (by omega) ?_
              intro g8 c8 w10 hown10 hg10 hbl10
              have HF := hidIt (HS9.out.addQ (p := p4) hown10 hg10 hbl10).fin
              have hb10 := (hg10.block R (lt_of_block HS9.out.box) (fun e => by obtain ⟨c, hc⟩ := owns_tag HS9.out.q5 e.symm; exact tag_ne HS9.out.box hc (by decide) rfl)).trans HS9.out.box
              obtain ⟨k0', k1', k2'⟩ := bcell3 hb10
              have f10 := free_any hb10 2
              have l10 := lt_of_block hb10
              clear hown10 hg10 hbl10 hb10 H48 HS9 hsz9
              go_upto_region 39 with (fail)
              clear k0' k1' k2' f10 l10
              generalize (w10.setCell ⟨R, 2, none⟩ (.slice (some ⟨g8, 0, none⟩) (bs.proms.length + 1) c8)) = wF at *
              obtain ⟨b0, b1, b2⟩ := bcell3 HF.out.box
              have lb := lt_of_block HF.out.box
              obtain ⟨z0, z1, z2⟩ := bcell3 HF.out.res
              have f0 := free_any HF.out.res 0
              have f1 := free_any HF.out.res 1
              have f2 := free_any HF.out.res 2
              have lz := lt_of_block HF.out.res
              go_wp2_with fail
              refine bodyPost_ret (v := .agg #[(.slice ap bs.prems.length cp), (.slice ar' bs.rules.length cr'), (.slice (some ⟨g8, 0, none⟩) (bs.proms.length + 1) c8)]) (by simp [results, Tryz.results16, go_sem, z0, z1, z2, lz]) rfl ?_
              obtain ⟨d1, d2, d3⟩ := HF.out.done (.slice ap bs.prems.length cp) (.slice ar' bs.rules.length cr') (.slice (some ⟨g8, 0, none⟩) (bs.proms.length + 1) c8)
              exact ⟨_, rfl, _, d1, (SpOk.addQ hok HOK4.out), ⟨_, d2⟩, d3⟩
            · have hi2 := HI2.out (hpos rfl)
              clear hpos HI2
              go_wp2_with fail
              refine (sn_nat 7 (by omega) (by omega) B b zs qy _ HSX.out.src).mono ?_
              rintro e w2 ⟨m7, q2, rfl, hm7, hs2, hg2⟩
              have HS2 := hidIt (HSX.out.call hs2 hg2)
              clear hs2 hg2 HSX
              have hm7' : m7 = 0 ∨ m7 = 1 ∨ m7 = 2 ∨ m7 = 3 ∨ m7 = 4 ∨ m7 = 5 ∨ m7 = 6 := by omega
              clear hm7
              rcases hm7' with rfl | rfl | rfl | rfl | rfl | rfl | rfl
              · go_upto_region 26 with (fail)
                obtain ⟨b0, b1, b2⟩ := bcell3 HS2.out.box
                have lb := lt_of_block HS2.out.box
                have hRb : R ≠ b := by have := HS2.out.lo; have := HS2.out.lt; omega
                obtain ⟨gp, bv0, eg, hgB, hgp, x0, x1, x2, x3, x4, x5, -⟩ := OwnRu.cell6 (HS2.out.rus) i2 hi2
                subst eg
                have hgpb : gp ≠ b := by have := HS2.out.lt; omega
                have hiv : i2 < vs.length := by rw [HS2.out.len]; exact hi2
                have hiI : (i2 : Int) < (bs.rules.length : Int) := by omega
                have hi0 : (0 : Int) ≤ (i2 : Int) := by omega
                have KB : ∀ wx, Own.CB w2 B b zs wx → wx.cell? ⟨R, 1, none⟩ = some (.slice (some ⟨gp, 0, none⟩) bs.rules.length cr') := fun wx hC => hC.cell b1 hRb
                clear x0 x1 x2 x3 x4 x5
                haveI : Nonempty (In (Own.CB w2 B b zs)) := ⟨⟨w2, Own.CB.one _ _ _ _ _ HS2.out.src⟩⟩
                refine Own.wp_region_tail 8 (Own.CB w2 B b zs) (Own.GB b) (Own.relTab [(136, Own.rA (Own.isRowB b (strRow [⟨#[]⟩, ⟨#[114, 97]⟩, ⟨#[82]⟩, ⟨#[114, 98]⟩]) 4 9)), (137, Own.rA (Own.isTxtB [⟨#[]⟩, ⟨#[114, 97]⟩, ⟨#[82]⟩, ⟨#[114, 98]⟩]))]) (by kernel_rfl) (by kernel_rfl) (by kernel_rfl) (by kernel_rfl) (by kernel_rfl) (by kernel_rfl) (Own.stableB_cons (Own.isRowB_up _ _ _ _) (Own.stableB_cons (Own.isTxtB_up _ _) (Own.stableB_nil _ _))) (Own.CB.start HS2.out.src) ?_
                simp only [Own.idleTail]
                repeat (
                  refine' Own.walkR_plain (by kernel_rfl) rfl rfl (fun wx hC hL => ?_) ?_
                  rotate_left
                  · (have hlw := hC.1.size
                     have hlw1 := Nat.lt_of_lt_of_le lb hlw
                     have hlw2 := Nat.lt_of_lt_of_le hgp hlw
                     simp only [KB wx hC, hiI, hi0, hlw1, hlw2, go_sem]; first | done | (go_simp; exact ⟨rfl, rfl⟩))
                  simp only [Act.put, List.setIfInBounds_toArray, List.set_cons_zero, List.set_cons_succ])
                refine Own.walkR_rel (by kernel_rfl) rfl rfl (of_decide_eq_true (by kernel_rfl)) (fun wx hC hL => ?_) (fun v hv => ?_)
                · go_simp
                  exact Own.rowB hC _ _ _
                obtain ⟨_, _, nb, rfl, hnb, -⟩ := hv
                simp only [Act.put, List.setIfInBounds_toArray, List.set_cons_zero, List.set_cons_succ]
                refine Own.walkR_rel (by kernel_rfl) rfl rfl (of_decide_eq_true (by kernel_rfl)) (fun wx hC hL => ?_) (fun v hv => ?_)
                · obtain ⟨nb', e', hne', hrow⟩ : Own.isRowB b (strRow [⟨#[]⟩, ⟨#[114, 97]⟩, ⟨#[82]⟩, ⟨#[114, 98]⟩]) 4 9 (.slice (some ⟨nb, 0, none⟩) 4 4) wx := hL.get 136 (by simp [Own.more]) (by kernel_rfl) rfl rfl
                  injection e' with e'
                  injection e' with e'
                  injection e' with e'
                  subst e'
                  go_simp
                  exact Own.callText (l := [⟨#[]⟩, ⟨#[114, 97]⟩, ⟨#[82]⟩, ⟨#[114, 98]⟩]) (by decide) (by decide) hC hrow hne'
                obtain ⟨_, _, s9, rfl, hs9⟩ := hv
                have hs9' : s9.size ≤ maxLen := Nat.le_trans (le12 (by decide) _ hs9) (by unfold maxLen; omega)
                simp only [Act.put, List.setIfInBounds_toArray, List.set_cons_zero, List.set_cons_succ]
                repeat (
                  refine' Own.walkR_plain (by kernel_rfl) rfl rfl (fun wx hC hL => ?_) ?_
                  rotate_left
                  · (have hlw := hC.1.size
                     have hlw1 := Nat.lt_of_lt_of_le lb hlw
                     have hlw2 := Nat.lt_of_lt_of_le hgp hlw
                     simp only [KB wx hC, hiI, hi0, hlw1, hlw2, go_sem]; first | done | (go_simp; exact ⟨rfl, rfl⟩))
                  simp only [Act.put, List.setIfInBounds_toArray, List.set_cons_zero, List.set_cons_succ])
                refine Own.walkR_idle (fun wx hC => only_refl _ _) ?_
                refine fun w9 hC9 hK => ?_
                obtain ⟨hg9, q9, hs9⟩ := hC9
                have HS9 := hidIt (HS2.out.call hs9 hg9)
                clear hg9 hs9 hK b0 b1 b2 lb KB HS2
                obtain ⟨gp', bv9, e', hgB9, hgp9, y0, y1, y2, y3, y4, y5, -⟩ := OwnRu.cell6 (HS9.out.rus) i2 hi2
                injection e' with e'
                injection e' with e'
                subst e'
                obtain ⟨cur, htag⟩ := owns_tag HS9.out.r5 (g := gp) rfl
                have fs0 := free_any htag (i2 * 6)
                have HW1 := HS9.out.putR rfl hi2 hiv (j := 0) (by decide) (u := (.string s9)) (y := ⟨s9, bs.rules[i2].strict, bs.rules[i2].rank, bs.rules[i2].body, bs.rules[i2].head⟩) (vb := vs[i2]) (only_refl _ _) rfl (HS9.out.bod i2 hi2 hiv) (fun g e => .inl e)
                simp only [Nat.add_zero] at HW1
                have HF := hidIt HW1.fin
                clear HW1
                simp only [List.drop_succ_cons, List.drop_zero]
                go_upto_region 37 with (fail)
                clear y0 y1 y2 y3 y4 htag hgp9
                clear y5
                generalize (w9.setCell ⟨gp, i2 * 6, none⟩ (.string s9)) = wF at *
                obtain ⟨b0, b1, b2⟩ := bcell3 HF.out.box
                have lb := lt_of_block HF.out.box
                obtain ⟨z0, z1, z2⟩ := bcell3 HF.out.res
                have f0 := free_any HF.out.res 0
                have f1 := free_any HF.out.res 1
                have f2 := free_any HF.out.res 2
                have lz := lt_of_block HF.out.res
                go_wp2_with fail
                refine bodyPost_ret (v := .agg #[(.slice ap bs.prems.length cp), (.slice (some ⟨gp, 0, none⟩) bs.rules.length cr'), (.slice aq bs.proms.length cq)]) (by simp [results, Tryz.results16, go_sem, z0, z1, z2, lz]) rfl ?_
                obtain ⟨d1, d2, d3⟩ := HF.out.done (.slice ap bs.prems.length cp) (.slice (some ⟨gp, 0, none⟩) bs.rules.length cr') (.slice aq bs.proms.length cq)
                exact ⟨_, rfl, _, d1, (SpOk.setR hok ⟨hs9', (hok.2.1 _ (List.getElem_mem hi2)).2.1, (hok.2.1 _ (List.getElem_mem hi2)).2.2.1, (hok.2.1 _ (List.getElem_mem hi2)).2.2.2⟩ hi2 (.inl (Nat.le_succ _))), ⟨_, d2⟩, d3⟩
              · go_upto_region 28 with (fail)
                obtain ⟨b0, b1, b2⟩ := bcell3 HS2.out.box
                have lb := lt_of_block HS2.out.box
                have hRb : R ≠ b := by have := HS2.out.lo; have := HS2.out.lt; omega
                obtain ⟨gp, bv0, eg, hgB, hgp, x0, x1, x2, x3, x4, x5, -⟩ := OwnRu.cell6 (HS2.out.rus) i2 hi2
                subst eg
                have hgpb : gp ≠ b := by have := HS2.out.lt; omega
                have hiv : i2 < vs.length := by rw [HS2.out.len]; exact hi2
                have hiI : (i2 : Int) < (bs.rules.length : Int) := by omega
                have hi0 : (0 : Int) ≤ (i2 : Int) := by omega
                have KB : ∀ wx, Own.CB w2 B b zs wx → wx.cell? ⟨R, 1, none⟩ = some (.slice (some ⟨gp, 0, none⟩) bs.rules.length cr') := fun wx hC => hC.cell b1 hRb
                clear x0 x1 x2 x3 x4 x5
                haveI : Nonempty (In (Own.CB w2 B b zs)) := ⟨⟨w2, Own.CB.one _ _ _ _ _ HS2.out.src⟩⟩
                refine Own.wp_region_tail 8 (Own.CB w2 B b zs) (Own.GB b) (Own.relTab [(146, Own.rA (Own.isRowB b (intRow [-1, 0, 1, 9, 10]) 5 3)), (147, Own.rA (Own.isIntB [-1, 0, 1, 9, 10]))]) (by kernel_rfl) (by kernel_rfl) (by kernel_rfl) (by kernel_rfl) (by kernel_rfl) (by kernel_rfl) (Own.stableB_cons (Own.isRowB_up _ _ _ _) (Own.stableB_cons (Own.isIntB_up _ _) (Own.stableB_nil _ _))) (Own.CB.start HS2.out.src) ?_
                simp only [Own.idleTail]
                repeat (
                  refine' Own.walkR_plain (by kernel_rfl) rfl rfl (fun wx hC hL => ?_) ?_
                  rotate_left
                  · (have hlw := hC.1.size
                     have hlw1 := Nat.lt_of_lt_of_le lb hlw
                     have hlw2 := Nat.lt_of_lt_of_le hgp hlw
                     simp only [KB wx hC, hiI, hi0, hlw1, hlw2, go_sem]; first | done | (go_simp; exact ⟨rfl, rfl⟩))
                  simp only [Act.put, List.setIfInBounds_toArray, List.set_cons_zero, List.set_cons_succ])
                refine Own.walkR_rel (by kernel_rfl) rfl rfl (of_decide_eq_true (by kernel_rfl)) (fun wx hC hL => ?_) (fun v hv => ?_)
                · go_simp
                  exact Own.rowB hC _ _ _
                obtain ⟨_, _, nb, rfl, hnb, -⟩ := hv
                simp only [Act.put, List.setIfInBounds_toArray, List.set_cons_zero, List.set_cons_succ]
                refine Own.walkR_rel (by kernel_rfl) rfl rfl (of_decide_eq_true (by kernel_rfl)) (fun wx hC hL => ?_) (fun v hv => ?_)
                · obtain ⟨nb', e', hne', hrow⟩ : Own.isRowB b (intRow [-1, 0, 1, 9, 10]) 5 3 (.slice (some ⟨nb, 0, none⟩) 5 5) wx := hL.get 146 (by simp [Own.more]) (by kernel_rfl) rfl rfl
                  injection e' with e'
                  injection e' with e'
                  injection e' with e'
                  subst e'
                  go_simp
                  exact Own.callPick (l := [-1, 0, 1, 9, 10]) (by decide) (by decide) hC hrow hne'
                obtain ⟨_, _, z9, rfl, hz9⟩ := hv
                have hz9' : I64 z9 := by simp at hz9; unfold I64; omega
                simp only [Act.put, List.setIfInBounds_toArray, List.set_cons_zero, List.set_cons_succ]
                repeat (
                  refine' Own.walkR_plain (by kernel_rfl) rfl rfl (fun wx hC hL => ?_) ?_
                  rotate_left
                  · (have hlw := hC.1.size
                     have hlw1 := Nat.lt_of_lt_of_le lb hlw
                     have hlw2 := Nat.lt_of_lt_of_le hgp hlw
                     simp only [KB wx hC, hiI, hi0, hlw1, hlw2, go_sem]; first | done | (go_simp; exact ⟨rfl, rfl⟩))
                  simp only [Act.put, List.setIfInBounds_toArray, List.set_cons_zero, List.set_cons_succ])
                refine Own.walkR_idle (fun wx hC => only_refl _ _) ?_
                refine fun w9 hC9 hK => ?_
                obtain ⟨hg9, q9, hs9⟩ := hC9
                have HS9 := hidIt (HS2.out.call hs9 hg9)
                clear hg9 hs9 hK b0 b1 b2 lb KB HS2
                obtain ⟨gp', bv9, e', hgB9, hgp9, y0, y1, y2, y3, y4, y5, -⟩ := OwnRu.cell6 (HS9.out.rus) i2 hi2
                injection e' with e'
                injection e' with e'
                subst e'
                obtain ⟨cur, htag⟩ := owns_tag HS9.out.r5 (g := gp) rfl
                have fs0 := free_any htag (i2 * 6 + 2)
                have HW1 := HS9.out.putR rfl hi2 hiv (j := 2) (by decide) (u := (.int .i64 z9)) (y := ⟨bs.rules[i2].name, bs.rules[i2].strict, z9, bs.rules[i2].body, bs.rules[i2].head⟩) (vb := vs[i2]) (only_refl _ _) rfl (HS9.out.bod i2 hi2 hiv) (fun g e => .inl e)
                have HF := hidIt HW1.fin
                clear HW1
                simp only [List.drop_succ_cons, List.drop_zero]
                go_upto_region 37 with (fail)
                clear y0 y1 y2 y3 y4 htag hgp9
                clear y5
                generalize (w9.setCell ⟨gp, i2 * 6 + 2, none⟩ (.int .i64 z9)) = wF at *
                obtain ⟨b0, b1, b2⟩ := bcell3 HF.out.box
                have lb := lt_of_block HF.out.box
                obtain ⟨z0, z1, z2⟩ := bcell3 HF.out.res
                have f0 := free_any HF.out.res 0
                have f1 := free_any HF.out.res 1
                have f2 := free_any HF.out.res 2
                have lz := lt_of_block HF.out.res
                go_wp2_with fail
                refine bodyPost_ret (v := .agg #[(.slice ap bs.prems.length cp), (.slice (some ⟨gp, 0, none⟩) bs.rules.length cr'), (.slice aq bs.proms.length cq)]) (by simp [results, Tryz.results16, go_sem, z0, z1, z2, lz]) rfl ?_
                obtain ⟨d1, d2, d3⟩ := HF.out.done (.slice ap bs.prems.length cp) (.slice (some ⟨gp, 0, none⟩) bs.rules.length cr') (.slice aq bs.proms.length cq)
                exact ⟨_, rfl, _, d1, (SpOk.setR hok ⟨(hok.2.1 _ (List.getElem_mem hi2)).1, hz9', (hok.2.1 _ (List.getElem_mem hi2)).2.2.1, (hok.2.1 _ (List.getElem_mem hi2)).2.2.2⟩ hi2 (.inl (Nat.le_succ _))), ⟨_, d2⟩, d3⟩
              · go_upto_region 30 with (fail)
                obtain ⟨b0, b1, b2⟩ := bcell3 HS2.out.box
                have lb := lt_of_block HS2.out.box
                have hRb : R ≠ b := by have := HS2.out.lo; have := HS2.out.lt; omega
                obtain ⟨gp, bv0, eg, hgB, hgp, x0, x1, x2, x3, x4, x5, -⟩ := OwnRu.cell6 (HS2.out.rus) i2 hi2
                subst eg
                have hgpb : gp ≠ b := by have := HS2.out.lt; omega
                have hiv : i2 < vs.length := by rw [HS2.out.len]; exact hi2
                have hiI : (i2 : Int) < (bs.rules.length : Int) := by omega
                have hi0 : (0 : Int) ≤ (i2 : Int) := by omega
                have KB : ∀ wx, Own.CB w2 B b zs wx → wx.cell? ⟨R, 1, none⟩ = some (.slice (some ⟨gp, 0, none⟩) bs.rules.length cr') := fun wx hC => hC.cell b1 hRb
                have D1 : ∀ wx, Own.CB w2 B b zs wx → wx.cell? ⟨gp, i2 * 6 + 1, none⟩ = some (.bool bs.rules[i2].strict) := fun wx hC => hC.cell x1 hgpb
                clear x0 x1 x2 x3 x4 x5
                haveI : Nonempty (In (Own.CB w2 B b zs)) := ⟨⟨w2, Own.CB.one _ _ _ _ _ HS2.out.src⟩⟩
                refine Own.wp_region_tail 12 (Own.CB w2 B b zs) (Own.GB b) (Own.relTab []) (by kernel_rfl) (by kernel_rfl) (by kernel_rfl) (by kernel_rfl) (by kernel_rfl) (by kernel_rfl) (Own.stableB_nil _ _) (Own.CB.start HS2.out.src) ?_
                simp only [Own.idleTail]
                repeat (
                  refine' Own.walkR_plain (by kernel_rfl) rfl rfl (fun wx hC hL => ?_) ?_
                  rotate_left
                  · (have hlw := hC.1.size
                     have hlw1 := Nat.lt_of_lt_of_le lb hlw
                     have hlw2 := Nat.lt_of_lt_of_le hgp hlw
                     simp only [KB wx hC, hiI, hi0, D1 wx hC, hlw1, hlw2, go_sem]; first | done | (go_simp; exact ⟨rfl, rfl⟩))
                  simp only [Act.put, List.setIfInBounds_toArray, List.set_cons_zero, List.set_cons_succ])
                refine Own.walkR_idle (fun wx hC => only_refl _ _) ?_
                refine fun w9 hC9 hK => ?_
                obtain ⟨hg9, q9, hs9⟩ := hC9
                have HS9 := hidIt (HS2.out.call hs9 hg9)
                clear hg9 hs9 hK b0 b1 b2 lb KB HS2
                obtain ⟨gp', bv9, e', hgB9, hgp9, y0, y1, y2, y3, y4, y5, -⟩ := OwnRu.cell6 (HS9.out.rus) i2 hi2
                injection e' with e'
                injection e' with e'
                subst e'
                obtain ⟨cur, htag⟩ := owns_tag HS9.out.r5 (g := gp) rfl
                have fs0 := free_any htag (i2 * 6 + 1)
                have HW1 := HS9.out.putR rfl hi2 hiv (j := 1) (by decide) (u := (.bool (!bs.rules[i2].strict))) (y := ⟨bs.rules[i2].name, !bs.rules[i2].strict, bs.rules[i2].rank, bs.rules[i2].body, bs.rules[i2].head⟩) (vb := vs[i2]) (only_refl _ _) rfl (HS9.out.bod i2 hi2 hiv) (fun g e => .inl e)
                have HF := hidIt HW1.fin
                clear HW1
                simp only [List.drop_succ_cons, List.drop_zero]
                go_upto_region 37 with (fail)
                clear y0 y1 y2 y3 y4 htag hgp9
                clear y5
                generalize (w9.setCell ⟨gp, i2 * 6 + 1, none⟩ (.bool (!bs.rules[i2].strict))) = wF at *
                obtain ⟨b0, b1, b2⟩ := bcell3 HF.out.box
                have lb := lt_of_block HF.out.box
                obtain ⟨z0, z1, z2⟩ := bcell3 HF.out.res
                have f0 := free_any HF.out.res 0
                have f1 := free_any HF.out.res 1
                have f2 := free_any HF.out.res 2
                have lz := lt_of_block HF.out.res
                go_wp2_with fail
                refine bodyPost_ret (v := .agg #[(.slice ap bs.prems.length cp), (.slice (some ⟨gp, 0, none⟩) bs.rules.length cr'), (.slice aq bs.proms.length cq)]) (by simp [results, Tryz.results16, go_sem, z0, z1, z2, lz]) rfl ?_
                obtain ⟨d1, d2, d3⟩ := HF.out.done (.slice ap bs.prems.length cp) (.slice (some ⟨gp, 0, none⟩) bs.rules.length cr') (.slice aq bs.proms.length cq)
                exact ⟨_, rfl, _, d1, (SpOk.setR hok ⟨(hok.2.1 _ (List.getElem_mem hi2)).1, (hok.2.1 _ (List.getElem_mem hi2)).2.1, (hok.2.1 _ (List.getElem_mem hi2)).2.2.1, (hok.2.1 _ (List.getElem_mem hi2)).2.2.2⟩ hi2 (.inl (Nat.le_succ _))), ⟨_, d2⟩, d3⟩
              · go_upto_region 32 with (fail)
                obtain ⟨b0, b1, b2⟩ := bcell3 HS2.out.box
                have lb := lt_of_block HS2.out.box
                have hRb : R ≠ b := by have := HS2.out.lo; have := HS2.out.lt; omega
                obtain ⟨gp, bv0, eg, hgB, hgp, x0, x1, x2, x3, x4, x5, -⟩ := OwnRu.cell6 (HS2.out.rus) i2 hi2
                subst eg
                have hgpb : gp ≠ b := by have := HS2.out.lt; omega
                have hiv : i2 < vs.length := by rw [HS2.out.len]; exact hi2
                have hiI : (i2 : Int) < (bs.rules.length : Int) := by omega
                have hi0 : (0 : Int) ≤ (i2 : Int) := by omega
                have KB : ∀ wx, Own.CB w2 B b zs wx → wx.cell? ⟨R, 1, none⟩ = some (.slice (some ⟨gp, 0, none⟩) bs.rules.length cr') := fun wx hC => hC.cell b1 hRb
                clear x0 x1 x2 x3 x4 x5
                haveI : Nonempty (In (Own.CB w2 B b zs)) := ⟨⟨w2, Own.CB.one _ _ _ _ _ HS2.out.src⟩⟩
                refine Own.wp_region_tail 7 (Own.CB w2 B b zs) (Own.GB b) (Own.relTab [(170, Own.rA Own.isOddB)]) (by kernel_rfl) (by kernel_rfl) (by kernel_rfl) (by kernel_rfl) (by kernel_rfl) (by kernel_rfl) (Own.stableB_cons (Own.isOddB_up _) (Own.stableB_nil _ _)) (Own.CB.start HS2.out.src) ?_
                simp only [Own.idleTail]
                repeat (
                  refine' Own.walkR_plain (by kernel_rfl) rfl rfl (fun wx hC hL => ?_) ?_
                  rotate_left
                  · (have hlw := hC.1.size
                     have hlw1 := Nat.lt_of_lt_of_le lb hlw
                     have hlw2 := Nat.lt_of_lt_of_le hgp hlw
                     simp only [KB wx hC, hiI, hi0, hlw1, hlw2, go_sem]; first | done | (go_simp; exact ⟨rfl, rfl⟩))
                  simp only [Act.put, List.setIfInBounds_toArray, List.set_cons_zero, List.set_cons_succ])
                refine Own.walkR_rel (by kernel_rfl) rfl rfl (of_decide_eq_true (by kernel_rfl)) (fun wx hC hL => ?_) (fun v hv => ?_)
                · go_simp
                  exact Own.callOdd hC
                obtain ⟨_, _, g9, s9, rfl, hs9⟩ := hv
                have hs9' : s9.size ≤ maxLen := Nat.le_trans hs9 (by unfold maxLen; omega)
                simp only [Act.put, List.setIfInBounds_toArray, List.set_cons_zero, List.set_cons_succ]
                repeat (
                  refine' Own.walkR_plain (by kernel_rfl) rfl rfl (fun wx hC hL => ?_) ?_
                  rotate_left
                  · (have hlw := hC.1.size
                     have hlw1 := Nat.lt_of_lt_of_le lb hlw
                     have hlw2 := Nat.lt_of_lt_of_le hgp hlw
                     simp only [KB wx hC, hiI, hi0, hlw1, hlw2, go_sem]; first | done | (go_simp; exact ⟨rfl, rfl⟩))
                  simp only [Act.put, List.setIfInBounds_toArray, List.set_cons_zero, List.set_cons_succ])
                refine Own.walkR_idle (fun wx hC => only_refl _ _) ?_
                refine fun w9 hC9 hK => ?_
                obtain ⟨hg9, q9, hs9⟩ := hC9
                have HS9 := hidIt (HS2.out.call hs9 hg9)
                clear hg9 hs9 hK b0 b1 b2 lb KB HS2
                obtain ⟨gp', bv9, e', hgB9, hgp9, y0, y1, y2, y3, y4, y5, -⟩ := OwnRu.cell6 (HS9.out.rus) i2 hi2
                injection e' with e'
                injection e' with e'
                subst e'
                obtain ⟨cur, htag⟩ := owns_tag HS9.out.r5 (g := gp) rfl
                have fs0 := free_any htag (i2 * 6 + 4)
                have fs1 := free_any htag (i2 * 6 + 5)
                have HW1 := HS9.out.putR rfl hi2 hiv (j := 4) (by decide) (u := (.bool g9)) (y := ⟨bs.rules[i2].name, bs.rules[i2].strict, bs.rules[i2].rank, bs.rules[i2].body, ⟨g9, bs.rules[i2].head.name⟩⟩) (vb := vs[i2]) (only_refl _ _) rfl (HS9.out.bod i2 hi2 hiv) (fun g e => .inl e)
                have hiv2 : i2 < (vs.set i2 vs[i2]).length := by simpa using hiv
                have HW2' := HW1.putR (g := gp) (c := cr') (by simp) (i := i2) (by simpa using hi2) hiv2 (j := 5) (by decide) (u := (.string s9)) (y := ⟨bs.rules[i2].name, bs.rules[i2].strict, bs.rules[i2].rank, bs.rules[i2].body, ⟨g9, s9⟩⟩) (vb := vs[i2]) (only_refl _ _) (by simp; rfl) (by have := HW1.bod i2 (by simpa using hi2) hiv2; simpa using this) (fun g e => .inl (by simpa using e))
                simp only [List.set_set] at HW2'
                have HF := hidIt HW2'.fin
                clear HW1 HW2'
                simp only [List.drop_succ_cons, List.drop_zero]
                go_upto_region 37 with (fail)
                clear y0 y1 y2 y3 y4 htag hgp9
                clear y5
                generalize ((w9.setCell ⟨gp, i2 * 6 + 4, none⟩ (.bool g9)).setCell ⟨gp, i2 * 6 + 5, none⟩ (.string s9)) = wF at *
                obtain ⟨b0, b1, b2⟩ := bcell3 HF.out.box
                have lb := lt_of_block HF.out.box
                obtain ⟨z0, z1, z2⟩ := bcell3 HF.out.res
                have f0 := free_any HF.out.res 0
                have f1 := free_any HF.out.res 1
                have f2 := free_any HF.out.res 2
                have lz := lt_of_block HF.out.res
                go_wp2_with fail
                refine bodyPost_ret (v := .agg #[(.slice ap bs.prems.length cp), (.slice (some ⟨gp, 0, none⟩) bs.rules.length cr'), (.slice aq bs.proms.length cq)]) (by simp [results, Tryz.results16, go_sem, z0, z1, z2, lz]) rfl ?_
                obtain ⟨d1, d2, d3⟩ := HF.out.done (.slice ap bs.prems.length cp) (.slice (some ⟨gp, 0, none⟩) bs.rules.length cr') (.slice aq bs.proms.length cq)
                exact ⟨_, rfl, _, d1, (SpOk.setR hok ⟨(hok.2.1 _ (List.getElem_mem hi2)).1, (hok.2.1 _ (List.getElem_mem hi2)).2.1, hs9', (hok.2.1 _ (List.getElem_mem hi2)).2.2.2⟩ hi2 (.inl (Nat.le_succ _))), ⟨_, d2⟩, d3⟩
              · go_upto_region 34 with (fail)
                obtain ⟨b0, b1, b2⟩ := bcell3 HS2.out.box
                have lb := lt_of_block HS2.out.box
                have hRb : R ≠ b := by have := HS2.out.lo; have := HS2.out.lt; omega
                have hiv : i2 < vs.length := by rw [HS2.out.len]; exact hi2
                obtain ⟨gp, eg, hgp, x0, x1, x2, x3, x4, x5⟩ := HS2.out.cell6 hi2 hiv
                subst eg
                have hgpb : gp ≠ b := by have h1 := (owns_blk HS2.out.r5 gp rfl).1; have := HS2.out.lt; omega
                have hiI : (i2 : Int) < (bs.rules.length : Int) := by omega
                have hi0 : (0 : Int) ≤ (i2 : Int) := by omega
                have hbl2 := hlb i2 hi2
                obtain ⟨ab, cb, hvb, -, -, -⟩ := (HS2.out.bod i2 hi2 hiv).form5
                have KB : ∀ wx, Own.CB w2 B b zs wx → wx.cell? ⟨R, 1, none⟩ = some (.slice (some ⟨gp, 0, none⟩) bs.rules.length cr') := fun wx hC => hC.cell b1 hRb
                rw [hvb] at x3
                have hob2 := HS2.out.bod i2 hi2 hiv
                rw [hvb] at hob2
                have hgpo : some gp ≠ (Value.slice ab bs.rules[i2].body.length cb).ownBlock := fun e => by
                  obtain ⟨c1', t1'⟩ := owns_tag hob2 e.symm
                  obtain ⟨c2', t2'⟩ := owns_tag HS2.out.r5 (g := gp) rfl
                  exact tag_ne t2' t1' (by decide) rfl
                have hRo : some R ≠ (Value.slice ab bs.rules[i2].body.length cb).ownBlock := fun e => by
                  obtain ⟨c1', t1'⟩ := owns_tag hob2 e.symm
                  exact tag_ne HS2.out.box t1' (by decide) rfl
                have hb2 := HS2.out.lt
                have hsz2 := HS2.out.size
                obtain ⟨ys, hys⟩ : ∃ ys, ys = bs.rules[i2].body := ⟨_, rfl⟩
                have HYS := hidIt hys
                rw [← hys] at hob2 hgpo hRo x3 hbl2
                have HVB : Hid (vs[i2] = .slice ab ys.length cb) := by show _ = _; rw [hys]; exact hvb
                clear hvb hys KB
                have HOLD : Hid (∀ k (hk : k < vs.length), k ≠ i2 → ∀ g, vs[k].ownBlock = some g → g < w2.heap.size ∧ some g ≠ (Value.slice ab ys.length cb).ownBlock) := fun k hk hki g e => ⟨(owns_blk (HS2.out.bod k (by have := HS2.out.len; omega) hk) g e).2, fun e2 => HS2.out.apart k i2 hk hiv hki g e (by rw [HVB.out]; exact e2.symm)⟩
                have KB : ∀ wx, Own.CX w2 B b (w.heap.size + 2) (.slice ab ys.length cb) ys zs wx → wx.cell? ⟨R, 1, none⟩ = some (.slice (some ⟨gp, 0, none⟩) bs.rules.length cr') := fun wx hC => hC.1.cell b1 hRb hRo
                have D3 : ∀ wx, Own.CX w2 B b (w.heap.size + 2) (.slice ab ys.length cb) ys zs wx → wx.cell? ⟨gp, i2 * 6 + 3, none⟩ = some (.slice ab ys.length cb) := fun wx hC => hC.1.cell x3 hgpb hgpo
                clear x0 x1 x2 x3 x4 x5
                haveI : Nonempty (In (Own.CX w2 B b (w.heap.size + 2) (.slice ab ys.length cb) ys zs)) := ⟨⟨w2, Own.CX.one HS2.out.src hob2⟩⟩
                refine Own.wp_region_tail 13 (Own.CX w2 B b (w.heap.size + 2) (.slice ab ys.length cb) ys zs) (Own.GX b (w.heap.size + 2) (.slice ab ys.length cb) (.slice ab (ys.length + 1) cb) ys) (Own.relTab [(185, Own.rA (Own.isLtr 3)), (186, Own.rA (Own.isLtX b (.slice ab ys.length cb))), (187, Own.rA (Own.isApp w2.heap.size b (w.heap.size + 2) (.slice ab ys.length cb) (.slice ab (ys.length + 1) cb) ys))]) (by kernel_rfl) (by kernel_rfl) (by kernel_rfl) (by kernel_rfl) (by kernel_rfl) (by kernel_rfl) (Own.stableX_cons (fun _ _ _ _ h => h) (Own.stableX_cons (Own.isLtX_up _ _ _ _ _) (Own.stableX_cons (Own.isApp_up _ _ _ _ _ _) (Own.stableX_nil _ _ _ _ _ _)))) (Own.CX.start HS2.out.src hob2) ?_
                simp only [Own.idleTail]
                repeat (
                  refine' Own.walkR_plain (by kernel_rfl) rfl rfl (fun wx hC hL => ?_) ?_
                  rotate_left
                  · (have hlw := hC.1.size
                     have hlw1 := Nat.lt_of_lt_of_le lb hlw
                     have hlw2 := Nat.lt_of_lt_of_le hgp hlw
                     simp only [KB wx hC, hiI, hi0, D3 wx hC, hlw1, hlw2, go_sem]; first | done | (go_simp; exact ⟨rfl, rfl⟩))
                  simp only [Act.put, List.setIfInBounds_toArray, List.set_cons_zero, List.set_cons_succ])
                refine Own.walkR_rel (by kernel_rfl) rfl rfl (of_decide_eq_true (by kernel_rfl)) (fun wx hC hL => ?_) (fun v hv => ?_)
                · obtain ⟨qx, hqx⟩ := hC.2.2
                  go_simp
                  refine (slit_any 3 (by omega) (by omega) B b zs qx wx hqx).mono ?_
                  rintro e wy ⟨g, m, k', rfl, hm, hs, hg⟩
                  obtain ⟨h1, h2⟩ := Own.CX.move (vN := .slice ab (ys.length + 1) cb) hC (by omega) hg ⟨k', hs⟩
                  exact ⟨_, rfl, h1, h2, ⟨g, m, rfl, by omega⟩, fun h => by cases h⟩
                obtain ⟨_, _, lg, lm, rfl, hlm⟩ := hv
                simp only [Act.put, List.setIfInBounds_toArray, List.set_cons_zero, List.set_cons_succ]
                refine Own.walkR_rel (by kernel_rfl) rfl rfl (of_decide_eq_true (by kernel_rfl)) (fun wx hC hL => ?_) (fun v hv => ?_)
                · go_simp
                  obtain ⟨qx, hqx⟩ := hC.2.2
                  have hg := only_of_below (bgrow wx (.cells #[.bool lg, .string (letter lm)] 28)) (some b)
                  obtain ⟨h1, h2⟩ := Own.CX.move (vN := .slice ab (ys.length + 1) cb) hC (by omega) hg ⟨qx, hqx.grow (only_of_below (bgrow wx _) none)⟩
                  exact ⟨h1, h2, ⟨_, lm, lg, rfl, by have := hqx.lt; omega, fun e => by have := (owns_blk hC.2.1 _ e.symm).2; omega, hlm, heap_alloc_new _ _⟩, fun h => by cases h⟩
                obtain ⟨_, _, b86, _, _, rfl, -⟩ := hv
                simp only [Act.put, List.setIfInBounds_toArray, List.set_cons_zero, List.set_cons_succ]
                refine Own.walkR_rel (by kernel_rfl) rfl rfl (of_decide_eq_true (by kernel_rfl)) (fun wx hC hL => ?_) (fun v hv => ?_)
                · obtain ⟨nb', m', g', e', h1', h2', h3', h4'⟩ : Own.isLtX b (.slice ab ys.length cb) (.slice (some ⟨b86, 0, none⟩) 1 1) wx := hL.get 186 (by simp [Own.more]) (by kernel_rfl) rfl rfl
                  injection e' with e'
                  injection e' with e'
                  injection e' with e'
                  subst e'
                  exact Own.appX rfl rfl rfl hC h3' h4' (by omega) (by omega) (by omega) (by omega)
                have hvf : ∃ (af : Option Addr) (cf : Nat), v = .slice af (ys.length + 1) cf := by
                  obtain ⟨_, _, h⟩ := hv
                  rcases h with ⟨h, -⟩ | ⟨gg, c, m, g, h, -⟩
                  · exact ⟨_, _, h⟩
                  · exact ⟨_, _, h⟩
                clear hv
                obtain ⟨af, cf, rfl⟩ := hvf
                simp only [Act.put, List.setIfInBounds_toArray, List.set_cons_zero, List.set_cons_succ]
                refine Own.walkR_idle (fun wx hC => ⟨But.refl _ _ _, fun h => h⟩) ?_
                refine Own.walkR_idle (fun wx hC => ⟨But.refl _ _ _, fun h => h⟩) ?_
                refine Own.walkR_idle (fun wx hC => ⟨But.refl _ _ _, fun h => h⟩) ?_
                refine fun w9 hC9 hK => ?_
                have hA9 : Own.isApp w2.heap.size b (w.heap.size + 2) (.slice ab ys.length cb) (.slice ab (ys.length + 1) cb) ys (.slice af (ys.length + 1) cf) w9 := hK.get 187 (by simp [Own.more]) rfl rfl
                obtain ⟨hbut9, hown9, q9, hs9⟩ := hC9
                obtain ⟨g4, m4, hm4, hown10, hnew⟩ : ∃ (g : Bool) (m : Nat), m < 3 ∧ OwnL w9 (w.heap.size + 2) (.slice af (ys.length + 1) cf) (ys ++ [⟨g, letter m⟩]) ∧ ∀ gg, (Value.slice af (ys.length + 1) cf).ownBlock = some gg → (Value.slice ab ys.length cb).ownBlock = some gg ∨ w2.heap.size ≤ gg := by
                  rcases hA9 with ⟨h1, g, m, h2, h3⟩ | ⟨gg, c, m, g, h1, h2, -, -, h5, h6⟩
                  · rw [h1]
                    exact ⟨g, m, h2, h3, fun gg e => .inl (by
                      cases ab with
                      | none => cases e
                      | some p => exact e)⟩
                  · exact ⟨g, m, h5, h6, fun gg' e => .inr (by rw [h1] at e; have e2 : gg = gg' := (by simpa [Value.ownBlock] using e); omega)⟩
                clear hK KB D3 b0 b1 b2 lb hA9
                have HF := hidIt (HS2.out.putX rfl hi2 hiv (j := 3) (by decide) (u := .slice af (ys.length + 1) cf) (y := ⟨bs.rules[i2].name, bs.rules[i2].strict, bs.rules[i2].rank, ys ++ [⟨g4, letter m4⟩], bs.rules[i2].head⟩) (vb := .slice af (ys.length + 1) cf) (by rw [HVB.out]; exact hbut9) hs9 rfl hown10 (fun k hk hki g e1 e2 => by
                  obtain ⟨h1, h2⟩ := HOLD.out k hk hki g e2
                  rcases hnew g e1 with h | h
                  · exact h2 h.symm
                  · omega)).fin
                have hb10 := (hbut9.block R (lt_of_block HS2.out.box) hRb hRo).trans HS2.out.box
                obtain ⟨cur, htag⟩ := owns_tag HS2.out.r5 (g := gp) rfl
                have htag10 := (hbut9.block gp hgp hgpb hgpo).trans htag
                obtain ⟨gp', e', -, y0, y1, y2, y3, y4, y5⟩ := HS2.out.cell6 hi2 hiv
                injection e' with e'
                injection e' with e'
                subst e'
                have y3' := hbut9.cell y3 hgpb hgpo
                have hgp10 := lt_of_block htag10
                obtain ⟨k0', k1', k2'⟩ := bcell3 hb10
                have fs0 := free_any htag10 (i2 * 6 + 3)
                have l10 := lt_of_block hb10
                clear hown9 hown10 hnew hbut9 hs9 hb10 HS2 hob2 HOLD y0 y1 y2 y3 y4 y5 htag htag10 hsz2
                simp only [List.drop_succ_cons, List.drop_zero]
                go_upto_region 37 with (fail)
                clear k0' k1' k2' fs0 l10 y3'
                generalize (w9.setCell ⟨gp, i2 * 6 + 3, none⟩ (.slice af (ys.length + 1) cf)) = wF at *
                obtain ⟨b0, b1, b2⟩ := bcell3 HF.out.box
                have lb := lt_of_block HF.out.box
                obtain ⟨z0, z1, z2⟩ := bcell3 HF.out.res
                have f0 := free_any HF.out.res 0
                have f1 := free_any HF.out.res 1
                have f2 := free_any HF.out.res 2
                have lz := lt_of_block HF.out.res
                go_wp2_with fail
                refine bodyPost_ret (v := .agg #[(.slice ap bs.prems.length cp), (.slice (some ⟨gp, 0, none⟩) bs.rules.length cr'), (.slice aq bs.proms.length cq)]) (by simp [results, Tryz.results16, go_sem, z0, z1, z2, lz]) rfl ?_
                obtain ⟨d1, d2, d3⟩ := HF.out.done (.slice ap bs.prems.length cp) (.slice (some ⟨gp, 0, none⟩) bs.rules.length cr') (.slice aq bs.proms.length cq)
                exact ⟨_, rfl, _, d1, (SpOk.setR hok ⟨(hok.2.1 _ (List.getElem_mem hi2)).1, (hok.2.1 _ (List.getElem_mem hi2)).2.1, (hok.2.1 _ (List.getElem_mem hi2)).2.2.1, fun x hx => (List.mem_append.1 hx).elim (fun h => (hok.2.1 _ (List.getElem_mem hi2)).2.2.2 x (by rw [← HYS.out]; exact h)) (fun e => by rw [List.mem_singleton.1 e]; show (letter m4).size ≤ maxLen; rw [show (letter m4).size = 1 from rfl]; unfold maxLen; omega)⟩ hi2 (.inl (by rw [← HYS.out]; simp))), ⟨_, d2⟩, d3⟩
              · go_upto_region 36 with (fail)
                obtain ⟨b0, b1, b2⟩ := bcell3 HS2.out.box
                have lb := lt_of_block HS2.out.box
                have hRb : R ≠ b := by have := HS2.out.lo; have := HS2.out.lt; omega
                have hiv : i2 < vs.length := by rw [HS2.out.len]; exact hi2
                obtain ⟨gp, eg, hgp, x0, x1, x2, x3, x4, x5⟩ := HS2.out.cell6 hi2 hiv
                subst eg
                have hgpb : gp ≠ b := by have h1 := (owns_blk HS2.out.r5 gp rfl).1; have := HS2.out.lt; omega
                have hiI : (i2 : Int) < (bs.rules.length : Int) := by omega
                have hi0 : (0 : Int) ≤ (i2 : Int) := by omega
                have hbl2 := hlb i2 hi2
                obtain ⟨ab, cb, hvb, -, -, -⟩ := (HS2.out.bod i2 hi2 hiv).form5
                have KB : ∀ wx, Own.CB w2 B b zs wx → wx.cell? ⟨R, 1, none⟩ = some (.slice (some ⟨gp, 0, none⟩) bs.rules.length cr') := fun wx hC => hC.cell b1 hRb
                rw [hvb] at x3
                clear x0 x1 x2 x3 x4 x5 hvb
                have hb2 := HS2.out.lt
                have hsz2 := HS2.out.size
                have HOLD : Hid (∀ k (hk : k < vs.length) g, vs[k].ownBlock = some g → g < w2.heap.size) := fun k hk g e => (owns_blk (HS2.out.bod k (by have := HS2.out.len; omega) hk) g e).2
                haveI : Nonempty (In (Own.CB w2 B b zs)) := ⟨⟨w2, Own.CB.one _ _ _ _ _ HS2.out.src⟩⟩
                refine Own.wp_region_tail 7 (Own.CB w2 B b zs) (Own.GB b) (Own.relTab [(196, Own.rA (Own.isLtsB w2.heap.size b 6 4))]) (by kernel_rfl) (by kernel_rfl) (by kernel_rfl) (by kernel_rfl) (by kernel_rfl) (by kernel_rfl) (Own.stableB_cons (Own.isLtsB_up _ _ _ _) (Own.stableB_nil _ _)) (Own.CB.start HS2.out.src) ?_
                simp only [Own.idleTail]
                repeat (
                  refine' Own.walkR_plain (by kernel_rfl) rfl rfl (fun wx hC hL => ?_) ?_
                  rotate_left
                  · (have hlw := hC.1.size
                     have hlw1 := Nat.lt_of_lt_of_le lb hlw
                     have hlw2 := Nat.lt_of_lt_of_le hgp hlw
                     simp only [KB wx hC, hiI, hi0, hlw1, hlw2, go_sem]; first | done | (go_simp; exact ⟨rfl, rfl⟩))
                  simp only [Act.put, List.setIfInBounds_toArray, List.set_cons_zero, List.set_cons_succ])
                refine Own.walkR_rel (by kernel_rfl) rfl rfl (of_decide_eq_true (by kernel_rfl)) (fun wx hC hL => ?_) (fun v hv => ?_)
                · go_simp
                  exact Own.callLits 6 4 (by omega) (by omega) (by omega) (by omega) hC
                obtain ⟨_, _, ys0, ho0, -⟩ := hv
                obtain ⟨al, cl, rfl, -, -, -⟩ := ho0.form5
                clear ho0
                simp only [Act.put, List.setIfInBounds_toArray, List.set_cons_zero, List.set_cons_succ]
                repeat (
                  refine' Own.walkR_plain (by kernel_rfl) rfl rfl (fun wx hC hL => ?_) ?_
                  rotate_left
                  · (have hlw := hC.1.size
                     have hlw1 := Nat.lt_of_lt_of_le lb hlw
                     have hlw2 := Nat.lt_of_lt_of_le hgp hlw
                     simp only [KB wx hC, hiI, hi0, hlw1, hlw2, go_sem]; first | done | (go_simp; exact ⟨rfl, rfl⟩))
                  simp only [Act.put, List.setIfInBounds_toArray, List.set_cons_zero, List.set_cons_succ])
                refine Own.walkR_idle (fun wx hC => only_refl _ _) ?_
                refine fun w9 hC9 hK => ?_
                obtain ⟨ys, ho9, hl9, hlet9, -⟩ : Own.isLtsB w2.heap.size b 6 4 (.slice al ys0.length cl) w9 := hK.get 196 (by simp [Own.more]) rfl rfl
                obtain ⟨hg9, q9, hs9⟩ := hC9
                have HS9 := hidIt (HS2.out.call hs9 hg9)
                clear hK hg9 hs9 KB b0 b1 b2 lb HS2
                have hyl : ys0.length = ys.length := by
                  obtain ⟨a', c', e, -⟩ := ho9.form5
                  injection e
                have HYL := hidIt hyl
                clear hyl
                simp only [List.drop_succ_cons, List.drop_zero]
                have hsz9 := HS9.out.size
                have HF := hidIt (HS9.out.putR' rfl hi2 hiv (j := 3) (by decide) (u := .slice al ys0.length cl) (y := ⟨bs.rules[i2].name, bs.rules[i2].strict, bs.rules[i2].rank, ys, bs.rules[i2].head⟩) (vb := .slice al ys0.length cl) (only_refl _ _) rfl (owns_le ho9 hsz2) (fun k hk hki g e3 e4 => by
                  have h1 := HOLD.out k hk g e4
                  have h2 := (owns_blk ho9 g e3).1
                  omega)).fin
                have HLET := hidIt hlet9
                have HL6 := hidIt hl9
                obtain ⟨gp', e', hgp9, y0, y1, y2, y3, y4, y5⟩ := HS9.out.cell6 hi2 hiv
                injection e' with e'
                injection e' with e'
                subst e'
                obtain ⟨cur, htag⟩ := owns_tag HS9.out.r5 (g := gp) rfl
                have fs0 := free_any htag (i2 * 6 + 3)
                clear HOLD ho9 hl9 hlet9 HS9 hsz9 y0 y1 y2 y4 y5 htag
                go_upto_region 37 with (fail)
                clear fs0 y3
                generalize (w9.setCell ⟨gp, i2 * 6 + 3, none⟩ (.slice al ys0.length cl)) = wF at *
                obtain ⟨b0, b1, b2⟩ := bcell3 HF.out.box
                have lb := lt_of_block HF.out.box
                obtain ⟨z0, z1, z2⟩ := bcell3 HF.out.res
                have f0 := free_any HF.out.res 0
                have f1 := free_any HF.out.res 1
                have f2 := free_any HF.out.res 2
                have lz := lt_of_block HF.out.res
                go_wp2_with fail
                refine bodyPost_ret (v := .agg #[(.slice ap bs.prems.length cp), (.slice (some ⟨gp, 0, none⟩) bs.rules.length cr'), (.slice aq bs.proms.length cq)]) (by simp [results, Tryz.results16, go_sem, z0, z1, z2, lz]) rfl ?_
                obtain ⟨d1, d2, d3⟩ := HF.out.done (.slice ap bs.prems.length cp) (.slice (some ⟨gp, 0, none⟩) bs.rules.length cr') (.slice aq bs.proms.length cq)
                exact ⟨_, rfl, _, d1, (SpOk.setR hok ⟨(hok.2.1 _ (List.getElem_mem hi2)).1, (hok.2.1 _ (List.getElem_mem hi2)).2.1, (hok.2.1 _ (List.getElem_mem hi2)).2.2.1, fun x hx => by obtain ⟨m, -, hm⟩ := HLET.out x hx; rw [hm, show (letter m).size = 1 from rfl]; unfold maxLen; omega⟩ hi2 (.inr HL6.out)), ⟨_, d2⟩, d3⟩
              · go_upto_region 24 with (fail)
                obtain ⟨b0, b1, b2⟩ := bcell3 HS2.out.box
                have lb := lt_of_block HS2.out.box
                have hRb : R ≠ b := by have := HS2.out.lo; have := HS2.out.lt; omega
                have hiv : i2 < vs.length := by rw [HS2.out.len]; exact hi2
                obtain ⟨gp, eg, hgp, x0, x1, x2, x3, x4, x5⟩ := HS2.out.cell6 hi2 hiv
                subst eg
                have hgpb : gp ≠ b := by have h1 := (owns_blk HS2.out.r5 gp rfl).1; have := HS2.out.lt; omega
                have hiI : (i2 : Int) < (bs.rules.length : Int) := by omega
                have hi0 : (0 : Int) ≤ (i2 : Int) := by omega
                have hbl2 := hlb i2 hi2
                obtain ⟨ab, cb, hvb, -, -, -⟩ := (HS2.out.bod i2 hi2 hiv).form5
                have KB : ∀ wx, Own.CB w2 B b zs wx → wx.cell? ⟨R, 1, none⟩ = some (.slice (some ⟨gp, 0, none⟩) bs.rules.length cr') := fun wx hC => hC.cell b1 hRb
                rw [hvb] at x3
                have D0 : ∀ wx, Own.CB w2 B b zs wx → wx.cell? ⟨gp, i2 * 6, none⟩ = some (.string bs.rules[i2].name) := fun wx hC => hC.cell x0 hgpb
                have D1 : ∀ wx, Own.CB w2 B b zs wx → wx.cell? ⟨gp, i2 * 6 + 1, none⟩ = some (.bool bs.rules[i2].strict) := fun wx hC => hC.cell x1 hgpb
                have D2 : ∀ wx, Own.CB w2 B b zs wx → wx.cell? ⟨gp, i2 * 6 + 2, none⟩ = some (.int .i64 bs.rules[i2].rank) := fun wx hC => hC.cell x2 hgpb
                have D3 : ∀ wx, Own.CB w2 B b zs wx → wx.cell? ⟨gp, i2 * 6 + 3, none⟩ = some (.slice ab bs.rules[i2].body.length cb) := fun wx hC => hC.cell x3 hgpb
                have D4 : ∀ wx, Own.CB w2 B b zs wx → wx.cell? ⟨gp, i2 * 6 + 4, none⟩ = some (.bool bs.rules[i2].head.neg) := fun wx hC => hC.cell x4 hgpb
                have D5 : ∀ wx, Own.CB w2 B b zs wx → wx.cell? ⟨gp, i2 * 6 + 5, none⟩ = some (.string bs.rules[i2].head.name) := fun wx hC => hC.cell x5 hgpb
                clear x0 x1 x2 x3 x4 x5
                haveI : Nonempty (In (Own.CB w2 B b zs)) := ⟨⟨w2, Own.CB.one _ _ _ _ _ HS2.out.src⟩⟩
                refine Own.wp_region_tail 8 (Own.CB w2 B b zs) (Own.GB b) (Own.relTab [(127, Own.rA (Own.isRowB b (#[.string bs.rules[i2].name, .bool bs.rules[i2].strict, .int .i64 bs.rules[i2].rank, .slice ab bs.rules[i2].body.length cb, .bool bs.rules[i2].head.neg, .string bs.rules[i2].head.name]) 1 72))]) (by kernel_rfl) (by kernel_rfl) (by kernel_rfl) (by kernel_rfl) (by kernel_rfl) (by kernel_rfl) (Own.stableB_cons (Own.isRowB_up _ _ _ _) (Own.stableB_nil _ _)) (Own.CB.start HS2.out.src) ?_
                simp only [Own.idleTail]
                repeat (
                  refine' Own.walkR_plain (by kernel_rfl) rfl rfl (fun wx hC hL => ?_) ?_
                  rotate_left
                  · (have hlw := hC.1.size
                     have hlw1 := Nat.lt_of_lt_of_le lb hlw
                     have hlw2 := Nat.lt_of_lt_of_le hgp hlw
                     simp only [KB wx hC, hiI, hi0, D0 wx hC, D1 wx hC, D2 wx hC, D3 wx hC, D4 wx hC, D5 wx hC, hlw1, hlw2, go_sem]; first | done | (go_simp; exact ⟨rfl, rfl⟩))
                  simp only [Act.put, List.setIfInBounds_toArray, List.set_cons_zero, List.set_cons_succ])
                refine Own.walkR_rel (by kernel_rfl) rfl rfl (of_decide_eq_true (by kernel_rfl)) (fun wx hC hL => ?_) (fun v hv => ?_)
                · go_simp
                  exact Own.rowB hC _ _ _
                obtain ⟨_, _, b27, rfl, -, -⟩ := hv
                simp only [Act.put, List.setIfInBounds_toArray, List.set_cons_zero, List.set_cons_succ]
                refine Own.walkR_idle (fun wx hC => only_refl _ _) ?_
                refine Own.walkR_idle (fun wx hC => only_refl _ _) ?_
                refine Own.walkR_idle (fun wx hC => only_refl _ _) ?_
                refine fun w9 hC9 hK => ?_
                obtain ⟨nb4, e27, hne27, h27⟩ : Own.isRowB b (#[.string bs.rules[i2].name, .bool bs.rules[i2].strict, .int .i64 bs.rules[i2].rank, .slice ab bs.rules[i2].body.length cb, .bool bs.rules[i2].head.neg, .string bs.rules[i2].head.name]) 1 72 (.slice (some ⟨b27, 0, none⟩) 1 1) w9 := hK.get 127 (by simp [Own.more]) rfl rfl
                injection e27 with e27
                injection e27 with e27
                injection e27 with e27
                subst e27
                obtain ⟨hg9, q9, hs9⟩ := hC9
                have HS9 := hidIt (HS2.out.call hs9 hg9)
                have H27 := hidIt h27
                have HVB := hidIt hvb
                clear hK hg9 hs9 h27 KB D0 D1 D2 D3 D4 D5 b0 b1 b2 lb HS2 hvb
                simp only [List.drop_succ_cons, List.drop_zero]
                have hsz9 := HS9.out.size
                refine wpList_append_kb rfl _ _ elemRu rfl (w.heap.size + 2) (.slice (some ⟨gp, 0, none⟩) bs.rules.length cr') bs.rules.length _ rfl HS9.out.r5 b27 1 rfl #[.string bs.rules[i2].name, .bool bs.rules[i2].strict, .int .i64 bs.rules[i2].rank, .slice ab bs.rules[i2].body.length cb, .bool bs.rules[i2].head.neg, .string bs.rules[i2].head.name] 72 H27.out rfl (one_of (by rfl)) (by omega) (by omega) ?_
                intro g8 c8 w10 hown10 hg10 hbl10
                have HF := hidIt (HS9.out.again (rv' := .slice (some ⟨g8, 0, none⟩) (bs.rules.length + 1) c8) hi2 hiv (by rw [HVB.out]; exact hown10) hg10)
                have hb10 := (hg10.block R (lt_of_block HS9.out.box) (fun e => by obtain ⟨c, hc⟩ := owns_tag HS9.out.r5 e.symm; exact tag_ne HS9.out.box hc (by decide) rfl)).trans HS9.out.box
                obtain ⟨k0', k1', k2'⟩ := bcell3 hb10
                have f10 := free_any hb10 1
                have l10 := lt_of_block hb10
                clear hown10 hg10 hbl10 hb10 H27 HS9 hsz9
                go_upto_region 37 with (fail)
                clear k0' k1' k2' f10 l10
                generalize (w10.setCell ⟨R, 1, none⟩ (.slice (some ⟨g8, 0, none⟩) (bs.rules.length + 1) c8)) = wF at *
                obtain ⟨b0, b1, b2⟩ := bcell3 HF.out.box
                have lb := lt_of_block HF.out.box
                obtain ⟨z0, z1, z2⟩ := bcell3 HF.out.res
                have f0 := free_any HF.out.res 0
                have f1 := free_any HF.out.res 1
                have f2 := free_any HF.out.res 2
                have lz := lt_of_block HF.out.res
                go_wp2_with fail
                refine bodyPost_ret (v := .agg #[(.slice ap bs.prems.length cp), (.slice (some ⟨g8, 0, none⟩) (bs.rules.length + 1) c8), (.slice aq bs.proms.length cq)]) (by simp [results, Tryz.results16, go_sem, z0, z1, z2, lz]) rfl ?_
                obtain ⟨d1, d2, d3⟩ := HF.out.done (.slice ap bs.prems.length cp) (.slice (some ⟨g8, 0, none⟩) (bs.rules.length + 1) c8) (.slice aq bs.proms.length cq)
                exact ⟨_, rfl, _, d1, (SpOk.addR hok hi2), ⟨_, d2⟩, d3⟩
        · have hi1 := HI1.out (hpos rfl)
          clear hpos HI1
          go_wp2_with fail
          refine (sn_nat 5 (by omega) (by omega) B b zs qx _ HSX.out.src).mono ?_
          rintro e w2 ⟨m5, q2, rfl, hm5, hs2, hg2⟩
          have HS2 := hidIt (HSX.out.call hs2 hg2)
          clear hs2 hg2 HSX
          have hm5' : m5 = 0 ∨ m5 = 1 ∨ m5 = 2 ∨ m5 = 3 ∨ m5 = 4 := by omega
          clear hm5
          rcases hm5' with rfl | rfl | rfl | rfl | rfl
          · go_upto_region 13 with (fail)
            obtain ⟨b0, b1, b2⟩ := bcell3 HS2.out.box
            have lb := lt_of_block HS2.out.box
            have hRb : R ≠ b := by have := HS2.out.lo; have := HS2.out.lt; omega
            obtain ⟨gp, rfl, hgp, x0, x1, x2, x3, x4⟩ := OwnPm.cell5 HS2.out.p5 i1 hi1
            have hiI : (i1 : Int) < (bs.prems.length : Int) := by omega
            have hi0 : (0 : Int) ≤ (i1 : Int) := by omega
            clear x0 x1 x2 x3 x4
            have KB : ∀ wx, Own.CB w2 B b zs wx → wx.cell? ⟨R, 0, none⟩ = some (.slice (some ⟨gp, 0, none⟩) bs.prems.length cp) := fun wx hC => hC.cell b0 hRb
            haveI : Nonempty (In (Own.CB w2 B b zs)) := ⟨⟨w2, Own.CB.one _ _ _ _ _ HS2.out.src⟩⟩
            refine Own.wp_region_tail 8 (Own.CB w2 B b zs) (Own.GB b) (Own.relTab [(70, Own.rA (Own.isNat 6))]) (by kernel_rfl) (by kernel_rfl) (by kernel_rfl) (by kernel_rfl) (by kernel_rfl) (by kernel_rfl) (Own.stableB_cons (Own.isNat_up _ _) (Own.stableB_nil _ _)) (Own.CB.start HS2.out.src) ?_
            simp only [Own.idleTail]
            repeat (
              refine' Own.walkR_plain (by kernel_rfl) rfl rfl (fun wx hC hL => ?_) ?_
              rotate_left
              · (have hlw := hC.1.size
                 have hlw1 := Nat.lt_of_lt_of_le lb hlw
                 have hlw2 := Nat.lt_of_lt_of_le hgp hlw
                 simp only [KB wx hC, hiI, hi0, hlw1, hlw2, go_sem]; first | done | (go_simp; exact ⟨rfl, rfl⟩))
              simp only [Act.put, List.setIfInBounds_toArray, List.set_cons_zero, List.set_cons_succ])
            refine Own.walkR_rel (by kernel_rfl) rfl rfl (of_decide_eq_true (by kernel_rfl)) (fun wx hC hL => ?_) (fun v hv => ?_)
            · go_simp
              exact Own.callN 6 (by omega) (by omega) hC
            obtain ⟨_, _, m9, rfl, hm9⟩ := hv
            have hw9 : IntKind.i64.wrap ((m9 : Int) - 1) = (m9 : Int) - 1 := by rw [IntKind.wrap_i64]; omega
            simp only [Act.put, List.setIfInBounds_toArray, List.set_cons_zero, List.set_cons_succ]
            repeat (
              refine' Own.walkR_plain (by kernel_rfl) rfl rfl (fun wx hC hL => ?_) ?_
              rotate_left
              · (have hlw := hC.1.size
                 have hlw1 := Nat.lt_of_lt_of_le lb hlw
                 have hlw2 := Nat.lt_of_lt_of_le hgp hlw
                 simp only [KB wx hC, hiI, hi0, hw9, hlw1, hlw2, go_sem]; first | done | (go_simp; exact ⟨rfl, rfl⟩))
              simp only [Act.put, List.setIfInBounds_toArray, List.set_cons_zero, List.set_cons_succ])
            refine Own.walkR_idle (fun wx hC => only_refl _ _) ?_
            refine fun w9 hC9 hK => ?_
            obtain ⟨hg9, q9, hs9⟩ := hC9
            have HS9 := hidIt (HS2.out.call hs9 hg9)
            clear hg9 hs9 hK b0 b1 b2 lb KB HS2
            obtain ⟨gp', e', hgp9, y0, y1, y2, y3, y4⟩ := OwnPm.cell5 HS9.out.p5 i1 hi1
            injection e' with e'
            injection e' with e'
            subst e'
            obtain ⟨cur, htag⟩ := owns_tag HS9.out.p5 (g := gp) rfl
            have fs0 := free_any htag (i1 * 5 + 2)
            have HW1 := HS9.out.setP rfl hi1 (j := 2) (by decide) (u := (.int .i64 ((m9 : Int) - 1))) (y := ⟨bs.prems[i1].lit, (m9 : Int) - 1, bs.prems[i1].rank, bs.prems[i1].src⟩) rfl
            have HF := hidIt HW1.fin
            clear HW1
            simp only [List.drop_succ_cons, List.drop_zero]
            go_upto_region 20 with (fail)
            clear y0 y1 y2 y3 y4 htag hgp9
            generalize (w9.setCell ⟨gp, i1 * 5 + 2, none⟩ (.int .i64 ((m9 : Int) - 1))) = wF at *
            obtain ⟨b0, b1, b2⟩ := bcell3 HF.out.box
            have lb := lt_of_block HF.out.box
            obtain ⟨z0, z1, z2⟩ := bcell3 HF.out.res
            have f0 := free_any HF.out.res 0
            have f1 := free_any HF.out.res 1
            have f2 := free_any HF.out.res 2
            have lz := lt_of_block HF.out.res
            go_wp2_with fail
            refine bodyPost_ret (v := .agg #[(.slice (some ⟨gp, 0, none⟩) bs.prems.length cp), (.slice ar' bs.rules.length cr'), (.slice aq bs.proms.length cq)]) (by simp [results, Tryz.results16, go_sem, z0, z1, z2, lz]) rfl ?_
            obtain ⟨d1, d2, d3⟩ := HF.out.done (.slice (some ⟨gp, 0, none⟩) bs.prems.length cp) (.slice ar' bs.rules.length cr') (.slice aq bs.proms.length cq)
            exact ⟨_, rfl, _, d1, (SpOk.setP hok ⟨(hok.1 _ (List.getElem_mem hi1)).1, (hok.1 _ (List.getElem_mem hi1)).2.1, (show I64 ((m9 : Int) - 1) by unfold I64; omega), (hok.1 _ (List.getElem_mem hi1)).2.2.2⟩), ⟨_, d2⟩, d3⟩
          · go_upto_region 15 with (fail)
            obtain ⟨b0, b1, b2⟩ := bcell3 HS2.out.box
            have lb := lt_of_block HS2.out.box
            have hRb : R ≠ b := by have := HS2.out.lo; have := HS2.out.lt; omega
            obtain ⟨gp, rfl, hgp, x0, x1, x2, x3, x4⟩ := OwnPm.cell5 HS2.out.p5 i1 hi1
            have hiI : (i1 : Int) < (bs.prems.length : Int) := by omega
            have hi0 : (0 : Int) ≤ (i1 : Int) := by omega
            clear x0 x1 x2 x3 x4
            have KB : ∀ wx, Own.CB w2 B b zs wx → wx.cell? ⟨R, 0, none⟩ = some (.slice (some ⟨gp, 0, none⟩) bs.prems.length cp) := fun wx hC => hC.cell b0 hRb
            haveI : Nonempty (In (Own.CB w2 B b zs)) := ⟨⟨w2, Own.CB.one _ _ _ _ _ HS2.out.src⟩⟩
            refine Own.wp_region_tail 8 (Own.CB w2 B b zs) (Own.GB b) (Own.relTab [(80, Own.rA (Own.isRowB b (intRow [-1, 0, 9, 10]) 4 3)), (81, Own.rA (Own.isIntB [-1, 0, 9, 10]))]) (by kernel_rfl) (by kernel_rfl) (by kernel_rfl) (by kernel_rfl) (by kernel_rfl) (by kernel_rfl) (Own.stableB_cons (Own.isRowB_up _ _ _ _) (Own.stableB_cons (Own.isIntB_up _ _) (Own.stableB_nil _ _))) (Own.CB.start HS2.out.src) ?_
            simp only [Own.idleTail]
            repeat (
              refine' Own.walkR_plain (by kernel_rfl) rfl rfl (fun wx hC hL => ?_) ?_
              rotate_left
              · (have hlw := hC.1.size
                 have hlw1 := Nat.lt_of_lt_of_le lb hlw
                 have hlw2 := Nat.lt_of_lt_of_le hgp hlw
                 simp only [KB wx hC, hiI, hi0, hlw1, hlw2, go_sem]; first | done | (go_simp; exact ⟨rfl, rfl⟩))
              simp only [Act.put, List.setIfInBounds_toArray, List.set_cons_zero, List.set_cons_succ])
            refine Own.walkR_rel (by kernel_rfl) rfl rfl (of_decide_eq_true (by kernel_rfl)) (fun wx hC hL => ?_) (fun v hv => ?_)
            · go_simp
              exact Own.rowB hC _ _ _
            obtain ⟨_, _, nb, rfl, hnb, -⟩ := hv
            simp only [Act.put, List.setIfInBounds_toArray, List.set_cons_zero, List.set_cons_succ]
            refine Own.walkR_rel (by kernel_rfl) rfl rfl (of_decide_eq_true (by kernel_rfl)) (fun wx hC hL => ?_) (fun v hv => ?_)
            · obtain ⟨nb', e', hne', hrow⟩ : Own.isRowB b (intRow [-1, 0, 9, 10]) 4 3 (.slice (some ⟨nb, 0, none⟩) 4 4) wx := hL.get 80 (by simp [Own.more]) (by kernel_rfl) rfl rfl
              injection e' with e'
              injection e' with e'
              injection e' with e'
              subst e'
              go_simp
              exact Own.callPick (l := [-1, 0, 9, 10]) (by decide) (by decide) hC hrow hne'
            obtain ⟨_, _, z9, rfl, hz9⟩ := hv
            have hz9' : I64 z9 := by simp at hz9; unfold I64; omega
            simp only [Act.put, List.setIfInBounds_toArray, List.set_cons_zero, List.set_cons_succ]
            repeat (
              refine' Own.walkR_plain (by kernel_rfl) rfl rfl (fun wx hC hL => ?_) ?_
              rotate_left
              · (have hlw := hC.1.size
                 have hlw1 := Nat.lt_of_lt_of_le lb hlw
                 have hlw2 := Nat.lt_of_lt_of_le hgp hlw
                 simp only [KB wx hC, hiI, hi0, hlw1, hlw2, go_sem]; first | done | (go_simp; exact ⟨rfl, rfl⟩))
              simp only [Act.put, List.setIfInBounds_toArray, List.set_cons_zero, List.set_cons_succ])
            refine Own.walkR_idle (fun wx hC => only_refl _ _) ?_
            refine fun w9 hC9 hK => ?_
            obtain ⟨hg9, q9, hs9⟩ := hC9
            have HS9 := hidIt (HS2.out.call hs9 hg9)
            clear hg9 hs9 hK b0 b1 b2 lb KB HS2
            obtain ⟨gp', e', hgp9, y0, y1, y2, y3, y4⟩ := OwnPm.cell5 HS9.out.p5 i1 hi1
            injection e' with e'
            injection e' with e'
            subst e'
            obtain ⟨cur, htag⟩ := owns_tag HS9.out.p5 (g := gp) rfl
            have fs0 := free_any htag (i1 * 5 + 3)
            have HW1 := HS9.out.setP rfl hi1 (j := 3) (by decide) (u := (.int .i64 z9)) (y := ⟨bs.prems[i1].lit, bs.prems[i1].kind, z9, bs.prems[i1].src⟩) rfl
            have HF := hidIt HW1.fin
            clear HW1
            simp only [List.drop_succ_cons, List.drop_zero]
            go_upto_region 20 with (fail)
            clear y0 y1 y2 y3 y4 htag hgp9
            generalize (w9.setCell ⟨gp, i1 * 5 + 3, none⟩ (.int .i64 z9)) = wF at *
            obtain ⟨b0, b1, b2⟩ := bcell3 HF.out.box
            have lb := lt_of_block HF.out.box
            obtain ⟨z0, z1, z2⟩ := bcell3 HF.out.res
            have f0 := free_any HF.out.res 0
            have f1 := free_any HF.out.res 1
            have f2 := free_any HF.out.res 2
            have lz := lt_of_block HF.out.res
            go_wp2_with fail
            refine bodyPost_ret (v := .agg #[(.slice (some ⟨gp, 0, none⟩) bs.prems.length cp), (.slice ar' bs.rules.length cr'), (.slice aq bs.proms.length cq)]) (by simp [results, Tryz.results16, go_sem, z0, z1, z2, lz]) rfl ?_
            obtain ⟨d1, d2, d3⟩ := HF.out.done (.slice (some ⟨gp, 0, none⟩) bs.prems.length cp) (.slice ar' bs.rules.length cr') (.slice aq bs.proms.length cq)
            exact ⟨_, rfl, _, d1, (SpOk.setP hok ⟨(hok.1 _ (List.getElem_mem hi1)).1, (hok.1 _ (List.getElem_mem hi1)).2.1, (hok.1 _ (List.getElem_mem hi1)).2.2.1, hz9'⟩), ⟨_, d2⟩, d3⟩
          · go_upto_region 17 with (fail)
            obtain ⟨b0, b1, b2⟩ := bcell3 HS2.out.box
            have lb := lt_of_block HS2.out.box
            have hRb : R ≠ b := by have := HS2.out.lo; have := HS2.out.lt; omega
            obtain ⟨gp, rfl, hgp, x0, x1, x2, x3, x4⟩ := OwnPm.cell5 HS2.out.p5 i1 hi1
            have hiI : (i1 : Int) < (bs.prems.length : Int) := by omega
            have hi0 : (0 : Int) ≤ (i1 : Int) := by omega
            clear x0 x1 x2 x3 x4
            have KB : ∀ wx, Own.CB w2 B b zs wx → wx.cell? ⟨R, 0, none⟩ = some (.slice (some ⟨gp, 0, none⟩) bs.prems.length cp) := fun wx hC => hC.cell b0 hRb
            haveI : Nonempty (In (Own.CB w2 B b zs)) := ⟨⟨w2, Own.CB.one _ _ _ _ _ HS2.out.src⟩⟩
            refine Own.wp_region_tail 7 (Own.CB w2 B b zs) (Own.GB b) (Own.relTab [(90, Own.rA Own.isOddB)]) (by kernel_rfl) (by kernel_rfl) (by kernel_rfl) (by kernel_rfl) (by kernel_rfl) (by kernel_rfl) (Own.stableB_cons (Own.isOddB_up _) (Own.stableB_nil _ _)) (Own.CB.start HS2.out.src) ?_
            simp only [Own.idleTail]
            repeat (
              refine' Own.walkR_plain (by kernel_rfl) rfl rfl (fun wx hC hL => ?_) ?_
              rotate_left
              · (have hlw := hC.1.size
                 have hlw1 := Nat.lt_of_lt_of_le lb hlw
                 have hlw2 := Nat.lt_of_lt_of_le hgp hlw
                 simp only [KB wx hC, hiI, hi0, hlw1, hlw2, go_sem]; first | done | (go_simp; exact ⟨rfl, rfl⟩))
              simp only [Act.put, List.setIfInBounds_toArray, List.set_cons_zero, List.set_cons_succ])
            refine Own.walkR_rel (by kernel_rfl) rfl rfl (of_decide_eq_true (by kernel_rfl)) (fun wx hC hL => ?_) (fun v hv => ?_)
            · go_simp
              exact Own.callOdd hC
            obtain ⟨_, _, g9, s9, rfl, hs9⟩ := hv
            have hs9' : s9.size ≤ maxLen := Nat.le_trans hs9 (by unfold maxLen; omega)
            simp only [Act.put, List.setIfInBounds_toArray, List.set_cons_zero, List.set_cons_succ]
            repeat (
              refine' Own.walkR_plain (by kernel_rfl) rfl rfl (fun wx hC hL => ?_) ?_
              rotate_left
              · (have hlw := hC.1.size
                 have hlw1 := Nat.lt_of_lt_of_le lb hlw
                 have hlw2 := Nat.lt_of_lt_of_le hgp hlw
                 simp only [KB wx hC, hiI, hi0, hlw1, hlw2, go_sem]; first | done | (go_simp; exact ⟨rfl, rfl⟩))
              simp only [Act.put, List.setIfInBounds_toArray, List.set_cons_zero, List.set_cons_succ])
            refine Own.walkR_idle (fun wx hC => only_refl _ _) ?_
            refine fun w9 hC9 hK => ?_
            obtain ⟨hg9, q9, hs9⟩ := hC9
            have HS9 := hidIt (HS2.out.call hs9 hg9)
            clear hg9 hs9 hK b0 b1 b2 lb KB HS2
            obtain ⟨gp', e', hgp9, y0, y1, y2, y3, y4⟩ := OwnPm.cell5 HS9.out.p5 i1 hi1
            injection e' with e'
            injection e' with e'
            subst e'
            obtain ⟨cur, htag⟩ := owns_tag HS9.out.p5 (g := gp) rfl
            have fs0 := free_any htag (i1 * 5)
            have fs1 := free_any htag (i1 * 5 + 1)
            have HW1 := HS9.out.setP rfl hi1 (j := 0) (by decide) (u := (.bool g9)) (y := ⟨⟨g9, bs.prems[i1].lit.name⟩, bs.prems[i1].kind, bs.prems[i1].rank, bs.prems[i1].src⟩) rfl
            simp only [Nat.add_zero] at HW1
            have HW2' := HW1.setP (g := gp) (c := cp) (by simp) (i := i1) (by simpa using hi1) (j := 1) (by decide) (u := (.string s9)) (y := ⟨⟨g9, s9⟩, bs.prems[i1].kind, bs.prems[i1].rank, bs.prems[i1].src⟩) (by simp; rfl)
            simp only [List.set_set] at HW2'
            have HF := hidIt HW2'.fin
            clear HW1 HW2'
            simp only [List.drop_succ_cons, List.drop_zero]
            go_upto_region 20 with (fail)
            clear y0 y1 y2 y3 y4 htag hgp9
            generalize ((w9.setCell ⟨gp, i1 * 5, none⟩ (.bool g9)).setCell ⟨gp, i1 * 5 + 1, none⟩ (.string s9)) = wF at *
            obtain ⟨b0, b1, b2⟩ := bcell3 HF.out.box
            have lb := lt_of_block HF.out.box
            obtain ⟨z0, z1, z2⟩ := bcell3 HF.out.res
            have f0 := free_any HF.out.res 0
            have f1 := free_any HF.out.res 1
            have f2 := free_any HF.out.res 2
            have lz := lt_of_block HF.out.res
            go_wp2_with fail
            refine bodyPost_ret (v := .agg #[(.slice (some ⟨gp, 0, none⟩) bs.prems.length cp), (.slice ar' bs.rules.length cr'), (.slice aq bs.proms.length cq)]) (by simp [results, Tryz.results16, go_sem, z0, z1, z2, lz]) rfl ?_
            obtain ⟨d1, d2, d3⟩ := HF.out.done (.slice (some ⟨gp, 0, none⟩) bs.prems.length cp) (.slice ar' bs.rules.length cr') (.slice aq bs.proms.length cq)
            exact ⟨_, rfl, _, d1, (SpOk.setP hok ⟨hs9', (hok.1 _ (List.getElem_mem hi1)).2.1, (hok.1 _ (List.getElem_mem hi1)).2.2.1, (hok.1 _ (List.getElem_mem hi1)).2.2.2⟩), ⟨_, d2⟩, d3⟩
          · go_upto_region 19 with (fail)
            obtain ⟨b0, b1, b2⟩ := bcell3 HS2.out.box
            have lb := lt_of_block HS2.out.box
            have hRb : R ≠ b := by have := HS2.out.lo; have := HS2.out.lt; omega
            obtain ⟨gp, rfl, hgp, x0, x1, x2, x3, x4⟩ := OwnPm.cell5 HS2.out.p5 i1 hi1
            have hiI : (i1 : Int) < (bs.prems.length : Int) := by omega
            have hi0 : (0 : Int) ≤ (i1 : Int) := by omega
            clear x0 x1 x2 x3 x4
            have KB : ∀ wx, Own.CB w2 B b zs wx → wx.cell? ⟨R, 0, none⟩ = some (.slice (some ⟨gp, 0, none⟩) bs.prems.length cp) := fun wx hC => hC.cell b0 hRb
            haveI : Nonempty (In (Own.CB w2 B b zs)) := ⟨⟨w2, Own.CB.one _ _ _ _ _ HS2.out.src⟩⟩
            refine Own.wp_region_tail 8 (Own.CB w2 B b zs) (Own.GB b) (Own.relTab [(99, Own.rA (Own.isRowB b (strRow [⟨#[65]⟩, ⟨#[]⟩, ⟨#[97]⟩]) 3 9)), (100, Own.rA (Own.isTxtB [⟨#[65]⟩, ⟨#[]⟩, ⟨#[97]⟩]))]) (by kernel_rfl) (by kernel_rfl) (by kernel_rfl) (by kernel_rfl) (by kernel_rfl) (by kernel_rfl) (Own.stableB_cons (Own.isRowB_up _ _ _ _) (Own.stableB_cons (Own.isTxtB_up _ _) (Own.stableB_nil _ _))) (Own.CB.start HS2.out.src) ?_
            simp only [Own.idleTail]
            repeat (
              refine' Own.walkR_plain (by kernel_rfl) rfl rfl (fun wx hC hL => ?_) ?_
              rotate_left
              · (have hlw := hC.1.size
                 have hlw1 := Nat.lt_of_lt_of_le lb hlw
                 have hlw2 := Nat.lt_of_lt_of_le hgp hlw
                 simp only [KB wx hC, hiI, hi0, hlw1, hlw2, go_sem]; first | done | (go_simp; exact ⟨rfl, rfl⟩))
              simp only [Act.put, List.setIfInBounds_toArray, List.set_cons_zero, List.set_cons_succ])
            refine Own.walkR_rel (by kernel_rfl) rfl rfl (of_decide_eq_true (by kernel_rfl)) (fun wx hC hL => ?_) (fun v hv => ?_)
            · go_simp
              exact Own.rowB hC _ _ _
            obtain ⟨_, _, nb, rfl, hnb, -⟩ := hv
            simp only [Act.put, List.setIfInBounds_toArray, List.set_cons_zero, List.set_cons_succ]
            refine Own.walkR_rel (by kernel_rfl) rfl rfl (of_decide_eq_true (by kernel_rfl)) (fun wx hC hL => ?_) (fun v hv => ?_)
            · obtain ⟨nb', e', hne', hrow⟩ : Own.isRowB b (strRow [⟨#[65]⟩, ⟨#[]⟩, ⟨#[97]⟩]) 3 9 (.slice (some ⟨nb, 0, none⟩) 3 3) wx := hL.get 99 (by simp [Own.more]) (by kernel_rfl) rfl rfl
              injection e' with e'
              injection e' with e'
              injection e' with e'
              subst e'
              go_simp
              exact Own.callText (l := [⟨#[65]⟩, ⟨#[]⟩, ⟨#[97]⟩]) (by decide) (by decide) hC hrow hne'
            obtain ⟨_, _, s9, rfl, hs9⟩ := hv
            have hs9' : s9.size ≤ maxLen := Nat.le_trans (le12 (by decide) _ hs9) (by unfold maxLen; omega)
            simp only [Act.put, List.setIfInBounds_toArray, List.set_cons_zero, List.set_cons_succ]
            repeat (
              refine' Own.walkR_plain (by kernel_rfl) rfl rfl (fun wx hC hL => ?_) ?_
              rotate_left
              · (have hlw := hC.1.size
                 have hlw1 := Nat.lt_of_lt_of_le lb hlw
                 have hlw2 := Nat.lt_of_lt_of_le hgp hlw
                 simp only [KB wx hC, hiI, hi0, hlw1, hlw2, go_sem]; first | done | (go_simp; exact ⟨rfl, rfl⟩))
              simp only [Act.put, List.setIfInBounds_toArray, List.set_cons_zero, List.set_cons_succ])
            refine Own.walkR_idle (fun wx hC => only_refl _ _) ?_
            refine fun w9 hC9 hK => ?_
            obtain ⟨hg9, q9, hs9⟩ := hC9
            have HS9 := hidIt (HS2.out.call hs9 hg9)
            clear hg9 hs9 hK b0 b1 b2 lb KB HS2
            obtain ⟨gp', e', hgp9, y0, y1, y2, y3, y4⟩ := OwnPm.cell5 HS9.out.p5 i1 hi1
            injection e' with e'
            injection e' with e'
            subst e'
            obtain ⟨cur, htag⟩ := owns_tag HS9.out.p5 (g := gp) rfl
            have fs0 := free_any htag (i1 * 5 + 4)
            have HW1 := HS9.out.setP rfl hi1 (j := 4) (by decide) (u := (.string s9)) (y := ⟨bs.prems[i1].lit, bs.prems[i1].kind, bs.prems[i1].rank, s9⟩) rfl
            have HF := hidIt HW1.fin
            clear HW1
            simp only [List.drop_succ_cons, List.drop_zero]
            go_upto_region 20 with (fail)
            clear y0 y1 y2 y3 y4 htag hgp9
            generalize (w9.setCell ⟨gp, i1 * 5 + 4, none⟩ (.string s9)) = wF at *
            obtain ⟨b0, b1, b2⟩ := bcell3 HF.out.box
            have lb := lt_of_block HF.out.box
            obtain ⟨z0, z1, z2⟩ := bcell3 HF.out.res
            have f0 := free_any HF.out.res 0
            have f1 := free_any HF.out.res 1
            have f2 := free_any HF.out.res 2
            have lz := lt_of_block HF.out.res
            go_wp2_with fail
            refine bodyPost_ret (v := .agg #[(.slice (some ⟨gp, 0, none⟩) bs.prems.length cp), (.slice ar' bs.rules.length cr'), (.slice aq bs.proms.length cq)]) (by simp [results, Tryz.results16, go_sem, z0, z1, z2, lz]) rfl ?_
            obtain ⟨d1, d2, d3⟩ := HF.out.done (.slice (some ⟨gp, 0, none⟩) bs.prems.length cp) (.slice ar' bs.rules.length cr') (.slice aq bs.proms.length cq)
            exact ⟨_, rfl, _, d1, (SpOk.setP hok ⟨(hok.1 _ (List.getElem_mem hi1)).1, hs9', (hok.1 _ (List.getElem_mem hi1)).2.2.1, (hok.1 _ (List.getElem_mem hi1)).2.2.2⟩), ⟨_, d2⟩, d3⟩
          · go_upto_region 11 with (fail)
            obtain ⟨b0, b1, b2⟩ := bcell3 HS2.out.box
            have lb := lt_of_block HS2.out.box
            have hRb : R ≠ b := by have := HS2.out.lo; have := HS2.out.lt; omega
            obtain ⟨gp, rfl, hgp, x0, x1, x2, x3, x4⟩ := OwnPm.cell5 HS2.out.p5 i1 hi1
            have hiI : (i1 : Int) < (bs.prems.length : Int) := by omega
            have hi0 : (0 : Int) ≤ (i1 : Int) := by omega
            clear x0 x1 x2 x3 x4
            have KB : ∀ wx, Own.CB w2 B b zs wx → wx.cell? ⟨R, 0, none⟩ = some (.slice (some ⟨gp, 0, none⟩) bs.prems.length cp) := fun wx hC => hC.cell b0 hRb
            have hp0 : 0 < bs.prems.length := by omega
            obtain ⟨gq, eq, hgq, y0', y1', -, -, -⟩ := OwnPm.cell5 HS2.out.p5 0 hp0
            injection eq with eq
            injection eq with eq
            subst eq
            have hgpb : gp ≠ b := by have h1 := (owns_blk HS2.out.p5 gp rfl).1; have := HS2.out.lt; omega
            have h0I : (0 : Int) < (bs.prems.length : Int) := by omega
            rw [Nat.zero_mul] at y0' y1'
            have D0 : ∀ wx, Own.CB w2 B b zs wx → wx.cell? ⟨gp, 0, none⟩ = some (.bool bs.prems[0].lit.neg) := fun wx hC => hC.cell y0' hgpb
            have D1 : ∀ wx, Own.CB w2 B b zs wx → wx.cell? ⟨gp, 0 + 1, none⟩ = some (.string bs.prems[0].lit.name) := fun wx hC => hC.cell y1' hgpb
            clear y0' y1' hgq
            haveI : Nonempty (In (Own.CB w2 B b zs)) := ⟨⟨w2, Own.CB.one _ _ _ _ _ HS2.out.src⟩⟩
            refine Own.wp_region_tail 10 (Own.CB w2 B b zs) (Own.GB b) (Own.relTab []) (by kernel_rfl) (by kernel_rfl) (by kernel_rfl) (by kernel_rfl) (by kernel_rfl) (by kernel_rfl) (Own.stableB_nil _ _) (Own.CB.start HS2.out.src) ?_
            simp only [Own.idleTail]
            repeat (
              refine' Own.walkR_plain (by kernel_rfl) rfl rfl (fun wx hC hL => ?_) ?_
              rotate_left
              · (have hlw := hC.1.size
                 have hlw1 := Nat.lt_of_lt_of_le lb hlw
                 have hlw2 := Nat.lt_of_lt_of_le hgp hlw
                 simp only [KB wx hC, hiI, hi0, D0 wx hC, D1 wx hC, h0I, hlw1, hlw2, go_sem]; first | done | (go_simp; exact ⟨rfl, rfl⟩))
              simp only [Act.put, List.setIfInBounds_toArray, List.set_cons_zero, List.set_cons_succ])
            refine Own.walkR_idle (fun wx hC => only_refl _ _) ?_
            refine fun w9 hC9 hK => ?_
            obtain ⟨hg9, q9, hs9⟩ := hC9
            have HS9 := hidIt (HS2.out.call hs9 hg9)
            clear hg9 hs9 hK b0 b1 b2 lb KB HS2
            obtain ⟨gp', e', hgp9, y0, y1, y2, y3, y4⟩ := OwnPm.cell5 HS9.out.p5 i1 hi1
            injection e' with e'
            injection e' with e'
            subst e'
            obtain ⟨cur, htag⟩ := owns_tag HS9.out.p5 (g := gp) rfl
            have fs0 := free_any htag (i1 * 5)
            have fs1 := free_any htag (i1 * 5 + 1)
            have HW1 := HS9.out.setP rfl hi1 (j := 0) (by decide) (u := (.bool bs.prems[0].lit.neg)) (y := ⟨⟨bs.prems[0].lit.neg, bs.prems[i1].lit.name⟩, bs.prems[i1].kind, bs.prems[i1].rank, bs.prems[i1].src⟩) rfl
            simp only [Nat.add_zero] at HW1
            have HW2' := HW1.setP (g := gp) (c := cp) (by simp) (i := i1) (by simpa using hi1) (j := 1) (by decide) (u := (.string bs.prems[0].lit.name)) (y := ⟨⟨bs.prems[0].lit.neg, bs.prems[0].lit.name⟩, bs.prems[i1].kind, bs.prems[i1].rank, bs.prems[i1].src⟩) (by simp; rfl)
            simp only [List.set_set] at HW2'
            have HF := hidIt HW2'.fin
            clear HW1 HW2'
            simp only [List.drop_succ_cons, List.drop_zero]
            go_upto_region 20 with (fail)
            clear y0 y1 y2 y3 y4 htag hgp9
            generalize ((w9.setCell ⟨gp, i1 * 5, none⟩ (.bool bs.prems[0].lit.neg)).setCell ⟨gp, i1 * 5 + 1, none⟩ (.string bs.prems[0].lit.name)) = wF at *
            obtain ⟨b0, b1, b2⟩ := bcell3 HF.out.box
            have lb := lt_of_block HF.out.box
            obtain ⟨z0, z1, z2⟩ := bcell3 HF.out.res
            have f0 := free_any HF.out.res 0
            have f1 := free_any HF.out.res 1
            have f2 := free_any HF.out.res 2
            have lz := lt_of_block HF.out.res
            go_wp2_with fail
            refine bodyPost_ret (v := .agg #[(.slice (some ⟨gp, 0, none⟩) bs.prems.length cp), (.slice ar' bs.rules.length cr'), (.slice aq bs.proms.length cq)]) (by simp [results, Tryz.results16, go_sem, z0, z1, z2, lz]) rfl ?_
            obtain ⟨d1, d2, d3⟩ := HF.out.done (.slice (some ⟨gp, 0, none⟩) bs.prems.length cp) (.slice ar' bs.rules.length cr') (.slice aq bs.proms.length cq)
            exact ⟨_, rfl, _, d1, (SpOk.setP hok ⟨(hok.1 _ (List.getElem_mem (by omega : 0 < bs.prems.length))).1, (hok.1 _ (List.getElem_mem hi1)).2.1, (hok.1 _ (List.getElem_mem hi1)).2.2.1, (hok.1 _ (List.getElem_mem hi1)).2.2.2⟩), ⟨_, d2⟩, d3⟩
end Go.Proofs.YtiffcdhiejmbdaaGreatDoor
