/- The reader of words in memory; its first calls. -/
import Derived.Test.YthdlmmikgpkfhaaGreatDoorZ1B5s0
import Derived.Test.YthdlmmikgpkfhaaGreatDoorKeep

namespace Go.Proofs.YthdlmmikgpkfhaaGreatDoor
set_option linter.unusedVariables false
set_option linter.unusedSimpArgs false
open Go Go.RowKit

/-- Block R holds a reader; it and its words lie below block L. -/
def RdAt (w : World) (L R : Nat) (r : Rd) : Prop :=
  L ≤ w.heap.size ∧ R < L ∧ ∃ (a : Option Addr) (cap : Nat), w.heap[R]? = some (.cells #[.slice a r.ws.length cap, .bool r.bad] 150 (0, 0)) ∧ r.ws.length ≤ cap ∧ cap ≤ maxLen ∧
    ∀ i (h : i < r.ws.length), ∃ b off : Nat, a = some ⟨b, off, none⟩ ∧ b < L ∧ b ≠ R ∧ w.cell? ⟨b, off + i, none⟩ = some (.string r.ws[i])

section
variable {w w' : World} {L R : Nat} {r : Rd}
theorem RdAt.lt (h : RdAt w L R r) : R < w.heap.size := Nat.lt_of_lt_of_le h.2.1 h.1
/-- It is kept while nothing below L turns. -/
theorem RdAt.kept {row : Option Nat} (h : RdAt w L R r) (hg : w.grownBy w' row) (hr : ∀ g, row = some g → L ≤ g) : RdAt w' L R r := by
  obtain ⟨h0, h1, a, cap, hk, h2, h3, h4⟩ := h
  refine ⟨Nat.le_trans h0 hg.size, h1, a, cap, by rw [hg.block R (lt_of_block hk) (fun e => by have := hr R e.symm; omega)]; exact hk, h2, h3, fun i hi => ?_⟩
  obtain ⟨b, off, rfl, h5, h6, h7⟩ := h4 i hi
  exact ⟨b, off, rfl, h5, h6, hg.cell h7 (fun e => by have := hr b e.symm; omega)⟩
theorem RdAt.go (h : RdAt w L R r) (hb : Below w.heap.size w w') : RdAt w' L R r := h.kept (only_of_below hb none) (fun g e => by cases e)
theorem RdAt.alloc (h : RdAt w L R r) (o : Obj) : RdAt (w.alloc o) L R r := h.go (bgrow w o)
theorem RdAt.setCell (h : RdAt w L R r) {p : Addr} (hp : L ≤ p.block) (u : Value) : RdAt (w.setCell p u) L R r :=
  h.kept (only_setCell (only_refl w (some p.block)) (.inl rfl) u) (fun g e => by injection e with e; subst e; exact hp)
end

theorem two_setCell0 {w : World} {b : Nat} {u v x : Value} {t : TypeId} (h : w.heap[b]? = some (.cells #[u, v] t (0, 0))) : (w.setCell ⟨b, 0, none⟩ x).heap[b]? = some (.cells #[x, v] t (0, 0)) := by
  have hlt := lt_of_block h
  have h' : w.heap[b] = .cells #[u, v] t (0, 0) := by simpa [Array.getElem?_eq_getElem hlt] using h
  show (w.heap.modify b _)[b]? = _
  rw [Array.getElem?_eq_getElem (by simpa using hlt), Array.getElem_modify_self, h']
  rfl
theorem cell_off {w : World} {p q : Addr} {u : Value} (h : q.block ≠ p.block) : (w.setCell p u).cell? q = w.cell? q := by
  have := Below.heap_setCell w p u q.block h
  unfold World.cell?
  rw [this]
theorem size_setCell (w : World) (p : Addr) (u : Value) : (w.setCell p u).heap.size = w.heap.size := by simp [World.setCell]

set_option maxHeartbeats 1000000 in
theorem expect_any (L R : Nat) (r : Rd) (g : Bool) (w : World) (h : RdAt w L R r) :
    Calls Tryz.prog 170 #[.pointer (some ⟨R, 0, none⟩), .bool g] w fun e w' => e = .returned (.tuple #[]) ∧ RdAt w' L R ⟨r.ws, r.bad || !g⟩ ∧ w.grownBy w' (some R) := by
  obtain ⟨ws, bad⟩ := r
  obtain ⟨h0, h1, a, cap, hk, h2, h3, h4⟩ := h
  simp only at hk h2 h4
  have c1 := cell_two1 hk
  have f1 := free_any hk 1
  have HK := hidIt hk
  have H4 := hidIt h4
  clear hk h4
  have fin : ∀ x : Bool, x = (bad || !g) → (RdAt (w.setCell ⟨R, 1, none⟩ (.bool x)) L R ⟨ws, bad || !g⟩ ∧ w.grownBy (w.setCell ⟨R, 1, none⟩ (.bool x)) (some R)) := fun x hx => by
    subst hx
    refine ⟨⟨by rw [size_setCell]; exact h0, h1, a, cap, two_setCell1 HK.out, h2, h3, fun i hi => ?_⟩, only_setCell (only_refl w _) (.inl rfl) _⟩
    obtain ⟨b, off, rfl, h5, h6, h7⟩ := H4.out i hi
    exact ⟨b, off, rfl, h5, h6, by rw [cell_off (show (⟨b, off + i, none⟩ : Addr).block ≠ (⟨R, 1, none⟩ : Addr).block from h6)]; exact h7⟩
  have FIN := hidIt fin
  clear fin
  cases bad <;> cases g
  all_goals
    go_enter Tryz.func170, Tryz.ntmps170
    go_wp2_with fail
    go_end0
    refine ⟨?_, FIN.out _ ?_⟩
    · rfl
    · rfl

set_option maxHeartbeats 1000000 in
theorem word_any (L R : Nat) (r : Rd) (w : World) (h : RdAt w L R r) :
    Calls Tryz.prog 135 #[.pointer (some ⟨R, 0, none⟩)] w fun e w' => e = .returned (.string (hdW r.ws)) ∧ RdAt w' L R (rdWord r) ∧ w.grownBy w' (some R) := by
  obtain ⟨ws, bad⟩ := r
  obtain ⟨h0, h1, a, cap, hk, h2, h3, h4⟩ := h
  simp only at hk h2 h4
  cases ws with
  | nil =>
    have c0 : w.cell? ⟨R, 0, none⟩ = some (.slice a 0 cap) := cell_two0 hk
    have HK := hidIt hk
    clear hk h4
    go_enter Tryz.func135, Tryz.ntmps135
    go_wp2_with fail
    go_ret
    exact ⟨rfl, ⟨h0, h1, a, cap, HK.out, Nat.zero_le _, h3, fun i hi => absurd hi (by simp [rdWord])⟩, only_refl _ _⟩
  | cons x t =>
    obtain ⟨b, off, rfl, h5, h6, h7⟩ := h4 0 (by simp)
    have H4 := hidIt h4
    have HK := hidIt hk
    simp only [List.getElem_cons_zero, Nat.add_zero] at h7
    have hn : (x :: t).length = t.length + 1 := rfl
    rw [hn] at hk h2
    have c0 := cell_two0 hk
    have f0 := free_any hk 0
    have hm1 : t.length + 1 ≤ 9223372036854775807 := by unfold maxLen at h3; omega
    have hm2 : cap ≤ 9223372036854775807 := by unfold maxLen at h3; omega
    have h31 : (1 : Int) ≤ (cap : Int) := by omega
    have h32 : (1 : Int) ≤ ((t.length + 1 : Nat) : Int) := by omega
    have h33 : ((t.length + 1 : Nat) : Int) ≠ 0 := by omega
    clear h4 hk
    have fin : ∀ ad : Option Addr, (ad = if cap = 1 then some ⟨b, off, none⟩ else some ⟨b, off + 1, none⟩) → (RdAt (w.setCell ⟨R, 0, none⟩ (.slice ad t.length (cap - 1))) L R ⟨t, bad⟩ ∧ w.grownBy (w.setCell ⟨R, 0, none⟩ (.slice ad t.length (cap - 1))) (some R)) := fun ad had => by
      refine ⟨⟨by rw [size_setCell]; exact h0, h1, ad, cap - 1, two_setCell0 HK.out, by show t.length ≤ cap - 1; omega, by unfold maxLen at *; omega, fun i hi => ?_⟩, only_setCell (only_refl w _) (.inl rfl) _⟩
      have hi' : i < t.length := hi
      have hc1 : cap ≠ 1 := by omega
      rw [if_neg hc1] at had
      subst had
      obtain ⟨b', off', e1, h5, h6, h7⟩ := H4.out (i + 1) (by simp; omega)
      injection e1 with e1
      injection e1 with e1 e2
      subst e1 e2
      refine ⟨b, off + 1, rfl, h5, h6, ?_⟩
      rw [cell_off (show (⟨b, off + 1 + i, none⟩ : Addr).block ≠ (⟨R, 0, none⟩ : Addr).block from h6), show off + 1 + i = off + (i + 1) by omega]
      exact h7
    have FIN := hidIt fin
    clear fin
    go_enter Tryz.func135, Tryz.ntmps135
    go_wp2_with fail
    all_goals
      go_ret
      refine ⟨rfl, ?_⟩
      first
        | (have hc : cap = 1 := by assumption
           subst hc
           exact FIN.out _ (if_pos rfl).symm)
        | exact FIN.out _ (if_neg (by assumption)).symm
end Go.Proofs.YthdlmmikgpkfhaaGreatDoor
