/- append: of one number to a list without room, of a list to an empty one; relations on lists for regions that draw their order. -/
import Derived.Test.YtfiaoibfejginaaDoorZ4B
import Derived.ArgAppend

namespace Go.Proofs.YtfiaoibfejginaaDoor
set_option linter.unusedVariables false
set_option linter.unusedSimpArgs false
open Go Go.RowKit Go.Sort

theorem IL.cells {w : World} {b off n c : Nat} {xs : List Int} (h : IL w (.slice (some ⟨b, off, none⟩) n c) xs) : ∀ j u, (xs.map (Value.int .i64))[j]? = some u → w.cell? ((⟨b, off, none⟩ : Addr).add j) = some u := by
  rcases h with ⟨h, -⟩ | ⟨b', off', cap, h1, h2, h3, h4, h5⟩
  · cases h
  · injection h1 with h1
    injection h1 with h1
    injection h1 with h1 h8
    subst h1 h8
    intro j u hj
    rw [List.getElem?_map] at hj
    obtain ⟨x, hx, rfl⟩ := Option.map_eq_some_iff.1 hj
    obtain ⟨hl, rfl⟩ := List.getElem?_eq_some_iff.1 hx
    rw [add_plain9]
    exact h5 j hl
theorem IL.len {w : World} {a : Option Addr} {n c : Nat} {xs : List Int} (h : IL w (.slice a n c) xs) : xs.length = n := by
  rcases h with ⟨h, rfl⟩ | ⟨b', off', cap, h1, h2, h3, h4, h5⟩
  · injection h with _ h2 _; subst h2; rfl
  · injection h1 with _ h6 _; exact h6.symm
theorem ints_one (xs : List Int) : ∀ u ∈ xs.map (Value.int .i64), u.oneCell' = true := by
  intro u hu
  obtain ⟨x, -, rfl⟩ := List.mem_map.1 hu
  rfl
theorem info_int : ∃ i : TypeInfo, Tryd.prog.info? 3 = some i ∧ i.zero = some (.int .i64 0) ∧ i.size = 1 ∧ i.bytes = 8 := by
  obtain ⟨i0, hi, hz0, hz1, hz2⟩ := info_parts infoI9
  exact ⟨i0, hi, hz0, hz1, hz2⟩

/-- append of some numbers to a list without room: a new list. -/
theorem run_append_full {w : World} (ty : TypeId) {a : Option Addr} {n : Nat} {xs : List Int} (h : IL w (.slice a n n) xs) (hn : n ≤ 1000) {m c1 : Nat} {z : Int} {tm : TypeId} (hm : w.heap[m]? = some (.cells #[.int .i64 z] tm (0, 0))) :
    ∃ g c w', (Builtin.append_ #[25, 25] ty #[.slice a n n, .slice (some ⟨m, 0, none⟩) 1 c1]).run Tryd.prog w = .ok (.slice (some ⟨g, 0, none⟩) (n + 1) c) w' ∧ OwnI w' w.heap.size (.slice (some ⟨g, 0, none⟩) (n + 1) c) (xs ++ [z]) ∧ Below w.heap.size w w' := by
  obtain ⟨i0, hi, hz0, hz1, hz2⟩ := info_int
  have hl := h.len
  have hnews : ∀ j u, ([.int .i64 z] : List Value)[j]? = some u → w.cell? ((⟨m, 0, none⟩ : Addr).add j) = some u := cells_news hm
  have fin : ∀ v' w', w'.ownsRow w.heap.size 3 1 v' (n + 1) (xs.map (Value.int .i64) ++ [.int .i64 z]) → w.grownBy w' none → ∃ g c, v' = .slice (some ⟨g, 0, none⟩) (n + 1) c ∧ OwnI w' w.heap.size v' (xs ++ [z]) ∧ Below w.heap.size w w' := fun v' w' ho hg => by
    obtain ⟨g, cap, rfl, -⟩ := owns_slice ho
    exact ⟨g, cap, rfl, OwnI.done hl ho, ⟨hg.os, hg.tape, hg.output, hg.size, fun k hk => hg.block k hk (fun e => by cases e)⟩⟩
  rcases h with ⟨h, rfl⟩ | ⟨b, off, cap, h1, h2, h3, h4, h5⟩
  · injection h with e1 e2 e3
    subst e1 e2
    obtain ⟨v', w', hr, h6, h7, -⟩ := run_append_own (P := Tryd.prog) w w.heap.size 25 ty 3 i0 _ 1 8 Tryd.underlying25 hi hz0 hz1 hz2 rfl (by decide) (.slice none 0 0) 0 [] (World.ownsRow_nil w _ _ _) ⟨m, 0, none⟩ 1 c1 [.int .i64 z] rfl hnews (one_of (by rfl)) (by unfold maxLen; omega) (by omega) (Nat.le_refl _)
    obtain ⟨g, c, rfl, h8, h9⟩ := fin v' w' h6 h7
    exact ⟨g, c, w', hr, h8, h9⟩
  · injection h1 with e1 e2 e3
    subst e1 e3
    have hil : IL w (.slice (some ⟨b, off, none⟩) n n) xs := .inr ⟨b, off, n, by rw [hl], h2, h3, h4, h5⟩
    obtain ⟨v', w', hr, h6, h7⟩ := run_append_arg_grows (P := Tryd.prog) w 25 ty 3 i0 _ 1 8 Tryd.underlying25 hi hz0 hz1 hz2 rfl (by decide) ⟨b, off, none⟩ n n (xs.map (Value.int .i64)) (by rw [List.length_map, hl, Nat.mul_one]) hil.cells ⟨m, 0, none⟩ 1 c1 [.int .i64 z] rfl hnews (by omega) (by unfold maxLen; omega) (by omega)
    obtain ⟨g, c, rfl, h8, h9⟩ := fin v' w' h6 h7
    exact ⟨g, c, w', hr, h8, h9⟩

theorem wpList_append_full {w : World} {ops : Array Oper} {rest : List Oper} {o : Oper} {a : Act} {Q : Exit → Act → World → Prop} (hgd : o.guard = none) (s x : Operand)
    (ho : o.op = .call { callee := .builtin .append, args := #[s, x], argTypes := #[25, 25] }) (av : Option Addr) (n : Nat) (xs : List Int) (hs : a.eval s = .slice av n n) (h : IL w (.slice av n n) xs) (hn : n ≤ 1000)
    (m c1 : Nat) (hx : a.eval x = .slice (some ⟨m, 0, none⟩) 1 c1) (z : Int) (tm : TypeId) (hm : w.heap[m]? = some (.cells #[.int .i64 z] tm (0, 0)))
    (k : ∀ g c w', OwnI w' w.heap.size (.slice (some ⟨g, 0, none⟩) (n + 1) c) (xs ++ [z]) → Below w.heap.size w w' → wpList Tryd.prog ops Q rest (a.put o.dst (.slice (some ⟨g, 0, none⟩) (n + 1) c)) w') : wpList Tryd.prog ops Q (o :: rest) a w := by
  obtain ⟨g, c, w', hr, h2, h3⟩ := run_append_full (w := w) o.type h hn (c1 := c1) hm
  refine wpList_plain hgd fun K hK => ?_
  unfold Oper.wp execOp
  simp only [ho, resolve, invoke, builtin, Sem.run_bind, Sem.run_pure, Result.andThen_ok, List.map_toArray, List.map_cons, List.map_nil, hs, hx, hr]
  exact hK _ _ (k g c w' h2 h3)

/-- append of a list to an empty one that the call has made. -/
theorem run_append_ints {w : World} (ty : TypeId) {B g0 : Nat} (hB : B ≤ g0) (hg0 : w.heap[g0]? = some (.cells #[] 3 (0, 0))) {a : Option Addr} {n c1 : Nat} {xs : List Int} (h : IL w (.slice a n c1) xs) (hn : n ≤ 1000) :
    ∃ g c w', (Builtin.append_ #[25, 25] ty #[.slice (some ⟨g0, 0, none⟩) 0 0, .slice a n c1]).run Tryd.prog w = .ok (.slice (some ⟨g, 0, none⟩) n c) w' ∧ OwnI w' B (.slice (some ⟨g, 0, none⟩) n c) xs ∧ w.grownBy w' (some g0) := by
  obtain ⟨i0, hi, hz0, hz1, hz2⟩ := info_int
  have hl := h.len
  have hown : w.ownsRow B 3 1 (.slice (some ⟨g0, 0, none⟩) 0 0) 0 [] := ⟨rfl, .inr ⟨g0, 0, #[], rfl, hB, hg0, Nat.le_refl _, Nat.zero_le _, rfl, rfl⟩⟩
  have hsz : B ≤ w.heap.size := by have := lt_of_block hg0; omega
  rcases h with ⟨h, rfl⟩ | ⟨b, off, cap, h1, h2, h3, h4, h5⟩
  · injection h with e1 e2 e3
    subst e1 e2 e3
    have hr := run_append_owned_none (P := Tryd.prog) (w := w) B 25 ty 3 i0 1 Tryd.underlying25 hi _ 0 _ hown
    exact ⟨g0, 0, w, hr, hown, only_refl w _⟩
  · injection h1 with e1 e2 e3
    subst e1 e3
    have hil : IL w (.slice (some ⟨b, off, none⟩) n c1) xs := .inr ⟨b, off, c1, by rw [hl], h2, h3, h4, h5⟩
    obtain ⟨v', w', hr, h6, h7, h8⟩ := run_append_own (P := Tryd.prog) w B 25 ty 3 i0 _ 1 8 Tryd.underlying25 hi hz0 hz1 hz2 rfl (by decide) _ 0 [] hown ⟨b, off, none⟩ n c1 (xs.map (Value.int .i64)) (by rw [List.length_map, hl, Nat.mul_one]) hil.cells (ints_one xs) (by unfold maxLen; omega) (by omega) hsz
    rw [Nat.zero_add, List.nil_append] at h6
    rcases h6.2 with ⟨h9, -⟩ | ⟨g, cap, cur, rfl, h10⟩
    · have := h8.1 h9
      cases this.1
    · refine ⟨g, cap, w', hr, ?_, h7⟩
      show World.ownsRow _ _ _ _ _ _ _
      rw [hl]
      exact h6

theorem wpList_append_ints {w : World} {ops : Array Oper} {rest : List Oper} {o : Oper} {a : Act} {Q : Exit → Act → World → Prop} (hgd : o.guard = none) (s x : Operand)
    (ho : o.op = .call { callee := .builtin .append, args := #[s, x], argTypes := #[25, 25] }) (B g0 : Nat) (hB : B ≤ g0) (hg0 : w.heap[g0]? = some (.cells #[] 3 (0, 0))) (hs : a.eval s = .slice (some ⟨g0, 0, none⟩) 0 0)
    (av : Option Addr) (n c1 : Nat) (xs : List Int) (hx : a.eval x = .slice av n c1) (h : IL w (.slice av n c1) xs) (hn : n ≤ 1000)
    (k : ∀ g c w', OwnI w' B (.slice (some ⟨g, 0, none⟩) n c) xs → w.grownBy w' (some g0) → wpList Tryd.prog ops Q rest (a.put o.dst (.slice (some ⟨g, 0, none⟩) n c)) w') : wpList Tryd.prog ops Q (o :: rest) a w := by
  obtain ⟨g, c, w', hr, h2, h3⟩ := run_append_ints (w := w) o.type hB hg0 h hn
  refine wpList_plain hgd fun K hK => ?_
  unfold Oper.wp execOp
  simp only [ho, resolve, invoke, builtin, Sem.run_bind, Sem.run_pure, Result.andThen_ok, List.map_toArray, List.map_cons, List.map_nil, hs, hx, hr]
  exact hK _ _ (k g c w' h2 h3)

/-- The value reads as a list. -/
def isL (n : Nat) (xs : List Int) : Value → World → Prop := fun v w => ∃ a c, v = .slice a n c ∧ IL w v xs
theorem isL_up (n : Nat) (xs : List Int) : GoesUp (isL n xs) := fun _ _ _ hg ⟨a, c, h1, h2⟩ => ⟨a, c, h1, h2.below hg⟩
def isV (x : Value) : Value → World → Prop := fun v _ => v = x
theorem isV_up (x : Value) : GoesUp (isV x) := fun _ _ _ _ h => h
theorem isL.il {n : Nat} {xs : List Int} {a : Option Addr} {c : Nat} {w : World} (h : isL n xs (.slice a n c) w) : IL w (.slice a n c) xs := by
  obtain ⟨a', c', -, h2⟩ := h
  exact h2
end Go.Proofs.YtfiaoibfejginaaDoor
