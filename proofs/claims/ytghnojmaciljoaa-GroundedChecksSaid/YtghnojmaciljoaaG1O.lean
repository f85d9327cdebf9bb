/- Relations for drawn regions beside a reader, append to an empty row, a pair's cell after a store. -/
import Derived.Test.YtghnojmaciljoaaG1I
import Derived.Test.YtghnojmaciljoaaRelS
import Derived.Test.YtghnojmaciljoaaRelN
import Derived.Test.YtghnojmaciljoaaG1D
import Derived.Test.YtghnojmaciljoaaG0U
namespace Go.Proofs.Ytghnojmaciljoaa
set_option linter.unusedVariables false
set_option linter.unusedSimpArgs false
open Go Go.RowKit

/-- append to an empty row without room: memory is made, nothing else. -/
theorem run_append0 {w : World} {T e : TypeId} {k by' : Nat} (hE : ElemOf T e k by') (ty : TypeId) (B g : Nat) (hg : w.heap[g]? = some (.cells #[] e (0, 0))) (hBg : B ≤ g) (a : Addr) (m c : Nat) (news : List Value) (hl : news.length = m * k)
    (hnews : ∀ j u, news[j]? = some u → w.cell? (a.add j) = some u) (h1 : ∀ u ∈ news, u.oneCell' = true) (hm : m ≤ 1000000) :
    ∃ v' w', (Builtin.append_ #[T, T] ty #[.slice (some ⟨g, 0, none⟩) 0 0, .slice (some a) m c]).run Try.prog w = .ok v' w' ∧ w'.ownsRow B e k v' m news ∧ Below w.heap.size w w' := by
  obtain ⟨i, z, hi, hz, hk, hb, hzc⟩ := hE.info
  have hsm := hE.small
  subst hk hb
  have hgl := lt_of_block hg
  have hby : (0 + m) * i.bytes ≤ 140737488355328 := Nat.le_trans (Nat.mul_le_mul (show 0 + m ≤ 1000001 by omega) hsm) (by decide)
  have hown : w.ownsRow B e i.size (.slice (some ⟨g, 0, none⟩) 0 0) 0 [] := ⟨by simp, .inr ⟨g, 0, #[], rfl, hBg, hg, Nat.le_refl _, Nat.zero_le _, by simp, by simp⟩⟩
  obtain ⟨v', w', hr, h2, h3, h4⟩ := run_append_own (P := Try.prog) w B T ty e i z i.size i.bytes hE.und hi hz rfl rfl hzc hE.pos _ 0 [] hown a m c news hl hnews h1 (by unfold maxLen; omega) hby (by omega)
  refine ⟨v', w', hr, by simpa using h2, ?_⟩
  by_cases hm0 : m = 0
  · subst hm0
    have hn : news = [] := List.eq_nil_of_length_eq_zero (by simpa using hl)
    subst hn
    have hr2 := run_append_room (P := Try.prog) w T ty e i hE.und hi g 0 0 #[] hg a 0 c [] hl hnews h1 (Nat.le_refl _) (by simp)
    rw [hr2] at hr
    injection hr with _ hw
    rw [← hw]
    refine ⟨rfl, rfl, rfl, by simp [World.setRow], fun j hj => ?_⟩
    by_cases hjg : j = g
    · subst hjg
      rw [setRow_heap w j #[] _ e _ hg, hg]
      simp
    · exact setRow_other w g j _ hjg
  · have hr2 := run_append_grow (P := Try.prog) w T ty e i z hE.und hi hz ⟨g, 0, none⟩ 0 0 [] (by simp) (fun j v hj => by simp at hj) a m c news hl hnews (by omega) (by omega) (growslice_fits (by omega) hby)
    rw [hr2] at hr
    injection hr with _ hw
    rw [← hw]
    exact ⟨rfl, rfl, rfl, by simp, fun j hj => heap_alloc_old w.drew _ hj⟩

theorem flat_put {α : Type} (enc : α → List Value) (k : Nat) (hk : ∀ x, (enc x).length = k) (u : Value) (y : α) : ∀ (xs : List α) (i j : Nat) (h : i < xs.length), j < k → enc y = (enc xs[i]).set j u → (xs.flatMap enc).set (i * k + j) u = (xs.set i y).flatMap enc
  | [], i, j, h, _, _ => by simp at h
  | x :: r, 0, j, h, hj, hy => by
    rw [List.flatMap_cons, Nat.zero_mul, Nat.zero_add, List.set_append_left _ _ (by rw [hk]; exact hj), List.set_cons_zero, List.flatMap_cons, hy]
    rfl
  | x :: r, i + 1, j, h, hj, hy => by
    have ih := flat_put enc k hk u y r i j (by simpa using h) hj hy
    rw [List.flatMap_cons, List.set_append_right _ _ (by rw [hk, Nat.add_mul]; omega), hk, show (i + 1) * k + j - k = i * k + j by rw [Nat.add_mul]; omega, ih, List.set_cons_succ, List.flatMap_cons]

/-- The block of an owned row is of its elements' type. -/
theorem owns_tag {w : World} {B : Nat} {e : TypeId} {k : Nat} {v : Value} {n : Nat} {xs : List Value} (h : w.ownsRow B e k v n xs) {g : Nat} (hg : v.ownBlock = some g) : ∃ cur, w.heap[g]? = some (.cells cur e (0, 0)) := by
  rcases h.2 with ⟨rfl, -⟩ | ⟨g', cap, cur, rfl, -, h2, -⟩
  · cases hg
  · injection hg with hg
    subst hg
    exact ⟨cur, h2⟩
theorem tag_ne {w : World} {g g' : Nat} {cs cs' : Array Value} {e e' : TypeId} (h : w.heap[g]? = some (.cells cs e (0, 0))) (h' : w.heap[g']? = some (.cells cs' e' (0, 0))) (hne : e ≠ e') : g ≠ g' := fun he => by
  subst he
  rw [h] at h'
  injection h' with h'
  injection h' with _ h'
  exact hne h'

theorem wpList_run {w : World} {ops : Array Oper} {rest : List Oper} {o : Oper} {a : Act} {Q : Exit → Act → World → Prop} (hgd : o.guard = none) (s x : Operand) {T : TypeId} (ho : o.op = .call { callee := .builtin .append, args := #[s, x], argTypes := #[T, T] }) {v u : Value} (hs : a.eval s = v) (hx : a.eval x = u)
    {v' : Value} {w' : World} (hr : (Builtin.append_ #[T, T] o.type #[v, u]).run Try.prog w = .ok v' w') (h : wpList Try.prog ops Q rest (a.put o.dst v') w') : wpList Try.prog ops Q (o :: rest) a w := by
  refine wpList_plain hgd fun K hK => ?_
  unfold Oper.wp execOp
  simp only [ho, resolve, invoke, builtin, Sem.run_bind, Sem.run_pure, Result.andThen_ok, List.map_toArray, List.map_cons, List.map_nil, hs, hx, hr]
  exact hK _ _ h

theorem flatL_map (xs : List (Int × Int)) : flatL xs = xs.flatMap encP := by
  apply List.ext_getElem?
  intro j
  by_cases hj : j < xs.length * 2
  · rw [flatL_get xs j hj, flatMap_get xs j hj]
  · rw [List.getElem?_eq_none (by rw [flatL_len]; omega), List.getElem?_eq_none (by rw [flatMap_len]; omega)]
/-- append of a list of pairs to a new empty row. -/
theorem run_append0p {w : World} (ty : TypeId) (B g : Nat) (hg : w.heap[g]? = some (.cells #[] 43 (0, 0))) (hBg : B ≤ g) {x : Value} {ps : List (Int × Int)} (hx : PairsAt w x ps) (hn : ps.length ≤ 1000000) :
    ∃ v' w', (Builtin.append_ #[25, 25] ty #[.slice (some ⟨g, 0, none⟩) 0 0, x]).run Try.prog w = .ok v' w' ∧ w'.ownsRow B 43 2 v' ps.length (ps.flatMap encP) ∧ Below w.heap.size w w' := by
  rcases hx with ⟨rfl, rfl⟩ | ⟨b, off, cap, rfl, h2, h3, h4, h5⟩
  · obtain ⟨i, z, hi, hz, hk, hb, hzc⟩ := elemP.info
    have hown : w.ownsRow B 43 2 (.slice (some ⟨g, 0, none⟩) 0 0) 0 [] := ⟨by simp, .inr ⟨g, 0, #[], rfl, hBg, hg, Nat.le_refl _, Nat.zero_le _, by simp, by simp⟩⟩
    exact ⟨_, w, run_append_owned_none (P := Try.prog) (w := w) B 25 ty 43 i 2 elemP.und hi _ 0 [] hown, hown, Below.refl _ _⟩
  · exact run_append0 elemP ty B g hg hBg ⟨b, off, none⟩ ps.length cap _ (flatMap_len ps) (fun j u hj => by
      have e : (⟨b, off, none⟩ : Addr).add j = ⟨b, off + j, none⟩ := by unfold Addr.add; split <;> simp_all
      rw [e]
      rw [← flatL_map] at hj
      exact PairsAt.cells h5 j u hj) (fun u hu => by rw [← flatL_map] at hu; exact flatL_one ps u hu) hn
namespace Own
/-- A new empty row. -/
def isEmp (L : Nat) (t : TypeId) : Value → World → Prop := fun v w => ∃ g : Nat, v = .slice (some ⟨g, 0, none⟩) 0 0 ∧ L ≤ g ∧ w.heap[g]? = some (.cells #[] t (0, 0))
theorem isEmp_up (L : Nat) (t : TypeId) : GoesUp (isEmp L t) := fun _ _ _ hg ⟨g, h1, h2, h3⟩ => ⟨g, h1, h2, blk_kept2 h3 hg⟩
theorem empA {W w : World} (hC : Ext W w) (t : TypeId) : Ext W (w.alloc (.cells #[] t)) ∧ Grows w (w.alloc (.cells #[] t)) ∧ relR (rA (isEmp W.heap.size t)) w (.slice (some ⟨w.heap.size, 0, none⟩) 0 0) (w.alloc (.cells #[] t)) :=
  ⟨hC.grown (bgrow w _), bgrow w _, ⟨_, rfl, Below.size hC, heap_alloc_new _ _⟩, fun h => by cases h⟩
/-- A row of one's own. -/
def isRow5 (L : Nat) (t : TypeId) (k n : Nat) (xs : List Value) : Value → World → Prop := fun v w => w.ownsRow L t k v n xs
theorem isRow5_up (L : Nat) (t : TypeId) (k n : Nat) (xs : List Value) : GoesUp (isRow5 L t k n xs) := fun _ _ _ hg h => owns_kept h fun g e => hg.block g (owns_blk h g e).2
/-- A new box of zeros. -/
def isBox5 (L : Nat) (cs : Array Value) (t : TypeId) : Value → World → Prop := fun v w => ∃ g : Nat, v = .pointer (some ⟨g, 0, none⟩) ∧ L ≤ g ∧ w.heap[g]? = some (.cells cs t (0, 0))
theorem isBox5_up (L : Nat) (cs : Array Value) (t : TypeId) : GoesUp (isBox5 L cs t) := fun _ _ _ hg ⟨g, h1, h2, h3⟩ => ⟨g, h1, h2, blk_kept2 h3 hg⟩
theorem box5A {W w : World} (hC : Ext W w) (cs : Array Value) (t : TypeId) : Ext W (w.alloc (.cells cs t)) ∧ Grows w (w.alloc (.cells cs t)) ∧ relR (rA (isBox5 W.heap.size cs t)) w (.pointer (some ⟨w.heap.size, 0, none⟩)) (w.alloc (.cells cs t)) :=
  ⟨hC.grown (bgrow w _), bgrow w _, ⟨_, rfl, Below.size hC, heap_alloc_new _ _⟩, fun h => by cases h⟩
end Own
namespace Own
/-- Worlds that grow from W but for the reader's block. -/
def CB (W : World) (B b : Nat) (zs : List Int) (w : World) : Prop := W.grownBy w (some b) ∧ ∃ q, SrcAt w B b zs q
def GB (b : Nat) (w w' : World) : Prop := w.grownBy w' (some b)
def UpB (b : Nat) (r : Value → World → Prop) : Prop := ∀ v w w', GB b w w' → r v w → r v w'
theorem CB.start {W : World} {B b q : Nat} {zs : List Int} (h : SrcAt W B b zs q) : CB W B b zs W.drew := ⟨only_of_below (Below.refl _ _).drew _, q, h.grow (only_of_below (Below.refl _ _).drew none)⟩
theorem CB.one (W : World) (B b : Nat) (zs : List Int) (q : Nat) (h : SrcAt W B b zs q) : CB W B b zs W := ⟨only_refl _ _, q, h⟩
theorem CB.grown {W w w' : World} {B b : Nat} {zs : List Int} (h : CB W B b zs w) (hb : Below w.heap.size w w') : CB W B b zs w' := by
  obtain ⟨h1, q, h2⟩ := h
  exact ⟨only_trans h1 (only_of_below hb _), q, h2.grow (only_of_below hb none)⟩
theorem stableB_nil (C : World → Prop) (b : Nat) : Stable C (GB b) (relTab []) := ⟨fun _ _ h => h.size, fun s r h => by cases h⟩
theorem stableB_cons {C : World → Prop} {b : Nat} {t : Nat} {r : RelO} {l : List (Nat × RelO)} (hr : UpB b r.rel) (h : Stable C (GB b) (relTab l)) : Stable C (GB b) (relTab ((t, r) :: l)) := by
  refine ⟨h.1, fun s r' hs => ?_⟩
  unfold relTab at hs
  split at hs
  · injection hs with hs
    subst hs
    exact fun v w w' _ _ hg hv => hr v w w' hg hv
  · exact h.2 s r' hs
def isNat (n : Nat) : Value → World → Prop := fun v _ => ∃ m : Nat, v = .int .i64 (m : Int) ∧ m < n
theorem isNat_up (b n : Nat) : UpB b (isNat n) := fun _ _ _ _ h => h
/-- A new box with these cells. -/
def isBoxB (L b : Nat) (cs : Array Value) (t : TypeId) : Value → World → Prop := fun v w => ∃ nb : Nat, v = .pointer (some ⟨nb, 0, none⟩) ∧ L ≤ nb ∧ nb ≠ b ∧ w.heap[nb]? = some (.cells cs t (0, 0))
theorem keptB {b nb : Nat} {w w' : World} {o : Obj} (hg : GB b w w') (hne : nb ≠ b) (h : w.heap[nb]? = some o) : w'.heap[nb]? = some o := by
  have hl : nb < w.heap.size := by
    rcases Nat.lt_or_ge nb w.heap.size with h' | h'
    · exact h'
    · rw [Array.getElem?_eq_none h'] at h; cases h
  exact (World.grownBy.block hg nb hl (fun e => hne (by injection e))).trans h
theorem isBoxB_up (L b : Nat) (cs : Array Value) (t : TypeId) : UpB b (isBoxB L b cs t) := fun _ _ _ hg ⟨nb, h1, h2, h3, h4⟩ => ⟨nb, h1, h2, h3, keptB hg h3 h4⟩
theorem callB {P : Program} {f : FuncId} {args : Array Value} {W w : World} {B b : Nat} {zs : List Int} {r : Value → World → Prop} (hC : CB W B b zs w) (h : Calls P f args w fun e w' => ∃ u, e = .returned u ∧ r u w' ∧ (∃ q, SrcAt w' B b zs q) ∧ w.grownBy w' (some b)) :
    Calls P f args w fun e w'' => ∃ u, e = .returned u ∧ CB W B b zs w'' ∧ GB b w w'' ∧ relR (rA r) w u w'' :=
  h.mono fun _ _ ⟨u, he, hr, hs, hg⟩ => ⟨u, he, ⟨only_trans hC.1 hg, hs⟩, hg, hr, fun h => by cases h⟩
theorem callN {W w : World} {B b : Nat} {zs : List Int} (n : Nat) (hn : 1 ≤ n) (hn' : (n : Int) ≤ 9223372036854775807) (hC : CB W B b zs w) :
    Calls Try.prog 16 #[.pointer (some ⟨b, 0, none⟩), .int .i64 (n : Int)] w fun e w'' => ∃ u, e = .returned u ∧ CB W B b zs w'' ∧ GB b w w'' ∧ relR (rA (isNat n)) w u w'' := by
  obtain ⟨q, hq⟩ := hC.2
  exact callB hC ((sn_nat (n : Int) (by omega) hn' B b zs q w hq).mono fun e w' ⟨m, k', he, hm, hs, hg⟩ => ⟨_, he, ⟨m, rfl, by omega⟩, ⟨k', hs⟩, hg⟩)
theorem boxB {W w : World} {B b L : Nat} {zs : List Int} (hC : CB W B b zs w) (hL : L ≤ W.heap.size) (cs : Array Value) (t : TypeId) : CB W B b zs (w.alloc (.cells cs t)) ∧ GB b w (w.alloc (.cells cs t)) ∧ relR (rA (isBoxB L b cs t)) w (.pointer (some ⟨w.heap.size, 0, none⟩)) (w.alloc (.cells cs t)) := by
  obtain ⟨q, hq⟩ := hC.2
  exact ⟨hC.grown (bgrow w _), only_of_below (bgrow w _) _, ⟨_, rfl, Nat.le_trans hL hC.1.size, by have := hq.lt; omega, heap_alloc_new _ _⟩, fun h => by cases h⟩
/-- What a cell of an older block holds in the class. -/
theorem CB.cell {W w : World} {B b p o : Nat} {zs : List Int} {u : Value} (hC : CB W B b zs w) (h : W.cell? ⟨p, o, none⟩ = some u) (hne : p ≠ b) : w.cell? ⟨p, o, none⟩ = some u := hC.1.cell h (fun e => hne (by injection e))
theorem rel_run {C : World → Prop} {G : World → World → Prop} {r : RelO} {w : World} {o : Oper} {a : Act} {s x : Operand} {T : TypeId} (ho : o.op = .call { callee := .builtin .append, args := #[s, x], argTypes := #[T, T] }) {v u : Value} (hs : a.eval s = v) (hx : a.eval x = u) {v' : Value} {w' : World}
    (hr : (Builtin.append_ #[T, T] o.type #[v, u]).run Try.prog w = .ok v' w') (h : C w' ∧ G w w' ∧ relR r w v' w') : relUpon Try.prog C G r w ((execOp a.eval o).run Try.prog w) := by
  unfold execOp
  simp only [ho, resolve, invoke, builtin, Sem.run_bind, Sem.run_pure, Result.andThen_ok, List.map_toArray, List.map_cons, List.map_nil, hs, hx, hr]
  exact h
end Own
end Go.Proofs.Ytghnojmaciljoaa
