/- The calls that read numbers from a list (package keep): what each answers, that it turns nothing but the reader's own count. -/
import Derived.Test.YtfiaoibfejginaaDoorName
import Derived.Deep.QuietTactic
import Derived.BigQuiet
import Derived.OneCell
import Derived.Deep.Draws
import Derived.IntWalk
namespace Go.Proofs.YtfiaoibfejginaaDoor
set_option linter.unusedVariables false
set_option linter.unusedSimpArgs false
open Go.RowKit

theorem ret_int {k : IntKind} {a b : Int} (h : a = b) : Ending.returned (.int k a) = .returned (.int k b) := by rw [h]

/-- A number below n (zero if n is not positive). -/
def modI (x n : Int) : Int := if n < 1 then 0 else x % n

theorem modI_bd (x n : Int) (h : 1 ≤ n) : 0 ≤ modI x n ∧ modI x n < n := by
  unfold modI
  rw [if_neg (by omega)]
  exact ⟨Int.emod_nonneg _ (by omega), Int.emod_lt_of_pos _ (by omega)⟩

theorem tmod_facts (x n : Int) (h : 1 ≤ n) (hx : x < 0) : -n < x.tmod n ∧ x.tmod n ≤ 0 ∧ x % n = if x.tmod n < 0 then x.tmod n + n else x.tmod n := by
  have e : x.tmod n = -((-x) % n) := by
    have := Int.neg_tmod (-x) n
    rw [Int.neg_neg, Int.tmod_eq_emod_of_nonneg (a := -x) (by omega)] at this
    exact this
  have b0 := Int.emod_nonneg (-x) (show n ≠ 0 by omega)
  have b1 := Int.emod_lt_of_pos (-x) (show 0 < n by omega)
  have hd : x = x.tmod n + n * x.tdiv n := by have := Int.mul_tdiv_add_tmod x n; omega
  have hm : x % n = x.tmod n % n := by
    have : x % n = (x.tmod n + n * x.tdiv n) % n := by rw [← hd]
    rw [this, Int.add_mul_emod_self_left]
  refine ⟨by omega, by omega, ?_⟩
  rw [hm]
  by_cases hz : x.tmod n < 0
  · rw [if_pos hz, ← Int.add_emod_right]
    exact Int.emod_eq_of_lt (by omega) (by omega)
  · rw [if_neg hz, show x.tmod n = 0 by omega]
    exact Int.zero_emod n

set_option maxHeartbeats 400000 in
theorem mod_any (x n : Int) (hx : -9223372036854775808 ≤ x) (hx' : x ≤ 9223372036854775807) (hn : -9223372036854775808 ≤ n) (hn' : n ≤ 9223372036854775807) (w : World) :
    Calls Tryd.prog 27 #[.int .i64 x, .int .i64 n] w fun e w' => e = .returned (.int .i64 (modI x n)) ∧ w = w' := by
  by_cases h1 : n < 1
  · have H : Hid (modI x n = 0) := by show _ = _; simp [modI, h1]
    go_enter Tryd.func27, Tryd.ntmps27
    go_wp2
    go_ret
    exact ⟨ret_int H.out.symm, rfl⟩
  · have H : Hid (modI x n = x % n) := by show _ = _; simp [modI, h1]
    by_cases h2 : 0 ≤ x
    · have b0 := Int.emod_nonneg x (show n ≠ 0 by omega)
      have b1 := Int.emod_lt_of_pos x (show 0 < n by omega)
      go_enter Tryd.func27, Tryd.ntmps27
      go_wp2
      go_ret
      exact ⟨ret_int H.out.symm, rfl⟩
    · obtain ⟨b0, b1, h3⟩ := tmod_facts x n (by omega) (by omega)
      have H3 := hidIt h3
      clear h3
      by_cases h4 : x.tmod n < 0
      · go_enter Tryd.func27, Tryd.ntmps27
        go_wp2
        go_ret
        exact ⟨ret_int (by rw [H.out, H3.out, if_pos h4]), rfl⟩
      · go_enter Tryd.func27, Tryd.ntmps27
        go_wp2
        go_ret
        exact ⟨ret_int (by rw [H.out, H3.out, if_neg (by omega)]), rfl⟩

/-- Block b holds a reader: a list of numbers that lies below block B and reads as zs, and how many of them have been read. -/
structure SrcAt (w : World) (B b : Nat) (zs : List Int) (k : Nat) : Prop where
  base : B ≤ b
  ex : ∃ (a : Option Addr) (cap : Nat), w.heap[b]? = some (.cells #[.slice a zs.length cap, .int .i64 k] 51 (0, 0)) ∧ k ≤ zs.length ∧ zs.length ≤ 2000 ∧
    (∀ i, i < zs.length → ∃ db off : Nat, a = some ⟨db, off, none⟩ ∧ db < B ∧ w.cell? ⟨db, off + i, none⟩ = some (.int .i64 (zs.getD i 0))) ∧ (∀ i, -9223372036854775808 ≤ zs.getD i 0 ∧ zs.getD i 0 ≤ 9223372036854775807)

/-- Only block g, and what is new, has turned. -/
theorem only_drewN {a w : World} {row : Option Nat} (h : a.grownBy w row) (n : Nat) : a.grownBy (w.drewN n) row := ⟨h.os, h.tape, h.output, h.size, h.block⟩
theorem only_refl (a : World) (row : Option Nat) : a.grownBy a row := ⟨rfl, rfl, rfl, Nat.le_refl _, fun _ _ _ => rfl⟩
theorem only_alloc {a w : World} {row : Option Nat} (h : a.grownBy w row) (o : Obj) : a.grownBy (w.alloc o) row :=
  ⟨h.os, h.tape, h.output, Nat.le_trans h.size (by simp), fun i hi hne => (Below.heap_alloc w o i (Nat.lt_of_lt_of_le hi h.size)).trans (h.block i hi hne)⟩
theorem only_setCell {a w : World} {g : Nat} (h : a.grownBy w (some g)) {p : Addr} (hp : p.block = g ∨ a.heap.size ≤ p.block) (u : Value) : a.grownBy (w.setCell p u) (some g) :=
  ⟨h.os, h.tape, h.output, by simpa [World.setCell] using h.size, fun i hi hne => (Below.heap_setCell w p u i (by
    rintro rfl
    rcases hp with hp | hp
    · exact hne (by rw [hp])
    · omega)).trans (h.block i hi hne)⟩
theorem only_of_below {a w : World} (h : Below a.heap.size a w) (row : Option Nat) : a.grownBy w row := ⟨h.os, h.tape, h.output, h.size, fun i hi _ => h.block i hi⟩
theorem only_trans {a w w' : World} {row : Option Nat} (h : a.grownBy w row) (k : w.grownBy w' row) : a.grownBy w' row :=
  ⟨k.os.trans h.os, k.tape.trans h.tape, k.output.trans h.output, Nat.le_trans h.size k.size, fun i hi hne => (k.block i (Nat.lt_of_lt_of_le hi h.size) hne).trans (h.block i hi hne)⟩

theorem cell_two0 {w : World} {b : Nat} {u v : Value} {t : TypeId} (h : w.heap[b]? = some (.cells #[u, v] t (0, 0))) : w.cell? ⟨b, 0, none⟩ = some u := by simp [World.cell?, h]
theorem cell_two1 {w : World} {b : Nat} {u v : Value} {t : TypeId} (h : w.heap[b]? = some (.cells #[u, v] t (0, 0))) : w.cell? ⟨b, 1, none⟩ = some v := by simp [World.cell?, h]
theorem free_any {w : World} {b : Nat} {c : Array Value} {t : TypeId} (h : w.heap[b]? = some (.cells c t (0, 0))) (k : Nat) : w.frozen? ⟨b, k, none⟩ = false := by simp [World.frozen?, h]
theorem two_setCell1 {w : World} {b : Nat} {u v x : Value} {t : TypeId} (h : w.heap[b]? = some (.cells #[u, v] t (0, 0))) : (w.setCell ⟨b, 1, none⟩ x).heap[b]? = some (.cells #[u, x] t (0, 0)) := by
  have hlt := lt_of_block h
  have h' : w.heap[b] = .cells #[u, v] t (0, 0) := by simpa [Array.getElem?_eq_getElem hlt] using h
  show (w.heap.modify b _)[b]? = _
  rw [Array.getElem?_eq_getElem (by simpa using hlt), Array.getElem_modify_self, h']
  rfl

section
variable {w w' : World} {B b : Nat} {zs : List Int} {k : Nat}
/-- The reader stays what it is while other blocks, from B on, turn. -/
theorem SrcAt.kept {row : Option Nat} (h : SrcAt w B b zs k) (hg : w.grownBy w' row) (hr : ∀ g, row = some g → B ≤ g ∧ g ≠ b) : SrcAt w' B b zs k := by
  obtain ⟨a, cap, hh, hk, hl, hc, hz⟩ := h.ex
  refine ⟨h.base, a, cap, by rw [hg.block b (lt_of_block hh) (fun e => (hr b e.symm).2 rfl)]; exact hh, hk, hl, fun i hi => ?_, hz⟩
  obtain ⟨db, off, rfl, hd, hcell⟩ := hc i hi
  exact ⟨db, off, rfl, hd, hg.cell hcell (fun e => by have := (hr db e.symm).1; omega)⟩
theorem SrcAt.grow (h : SrcAt w B b zs k) (hg : w.grownBy w' none) : SrcAt w' B b zs k := h.kept hg (fun g e => by cases e)
theorem SrcAt.alloc (h : SrcAt w B b zs k) (o : Obj) : SrcAt (w.alloc o) B b zs k := h.grow (only_alloc (only_refl w none) o)
theorem SrcAt.drewN (h : SrcAt w B b zs k) (n : Nat) : SrcAt (w.drewN n) B b zs k := h.grow (only_drewN (only_refl w none) n)
theorem SrcAt.setCell (h : SrcAt w B b zs k) (p : Addr) (u : Value) (hp : B ≤ p.block) (hne : p.block ≠ b) : SrcAt (w.setCell p u) B b zs k :=
  h.kept (only_setCell (only_refl w (some p.block)) (.inl rfl) u) (fun g e => by injection e with e; subst e; exact ⟨hp, hne⟩)
theorem SrcAt.lt (h : SrcAt w B b zs k) : b < w.heap.size := by
  obtain ⟨a, cap, hh, _⟩ := h.ex
  exact lt_of_block hh
end

set_option maxHeartbeats 400000 in
theorem raw_end (B b : Nat) (zs : List Int) (w : World) (h : SrcAt w B b zs zs.length) :
    Calls Tryd.prog 45 #[.pointer (some ⟨b, 0, none⟩)] w fun e w' => e = .returned (.int .i64 0) ∧ ∃ n, w' = w.drewN n := by
  obtain ⟨a, cap, hh, hk, hl, hc, hz⟩ := h.ex
  have h0 := cell_two0 hh
  have h1 := cell_two1 hh
  clear hh hk hc hz h
  generalize zs.length = len at *
  go_enter Tryd.func45, Tryd.ntmps45
  go_wp2
  go_quiet (fail)
  go_wp2
  go_ret
  exact ⟨rfl, _, rfl⟩

set_option maxHeartbeats 400000 in
theorem raw_in (B b : Nat) (zs : List Int) (k : Nat) (w : World) (h : SrcAt w B b zs k) (hk : k < zs.length) :
    Calls Tryd.prog 45 #[.pointer (some ⟨b, 0, none⟩)] w fun e w' => e = .returned (.int .i64 (zs.getD k 0)) ∧ ∃ n m, w' = ((w.drewN n).setCell ⟨b, 1, none⟩ (.int .i64 ((k : Int) + 1))).drewN m := by
  obtain ⟨a, cap, hh, _, hl, hc, hz⟩ := h.ex
  obtain ⟨db, off, rfl, hd0, hcell⟩ := hc k hk
  have hd : db ≠ b := fun e => by have := h.base; omega
  have h0 := cell_two0 hh
  have h1 := cell_two1 hh
  have hf := free_any hh 1
  clear hh hc hz h
  generalize zs.getD k 0 = z at *
  generalize zs.length = len at *
  have hd' : b ≠ db := fun e => hd e.symm
  go_enter Tryd.func45, Tryd.ntmps45
  go_wp2
  go_quiet (fail)
  go_wp2
  have hwr : IntKind.i64.wrap (k : Int) = (k : Int) := IntWalk.i64_in _ (by omega)
  go_quiet (fail)
  go_wp2
  go_ret
  exact ⟨rfl, _, _, rfl⟩

/-- A number that fits an int. -/
def I64 (z : Int) : Prop := -9223372036854775808 ≤ z ∧ z ≤ 9223372036854775807

/-- What a read leaves: some number with P, the reader as it was but for its count, all else as it was. -/
def Read (w : World) (B b : Nat) (zs : List Int) (P : Int → Prop) (e : Ending) (w' : World) : Prop :=
  ∃ (z : Int) (k' : Nat), e = .returned (.int .i64 z) ∧ P z ∧ SrcAt w' B b zs k' ∧ w.grownBy w' (some b)

theorem SrcAt.stepped {w : World} {B b : Nat} {zs : List Int} {k : Nat} (h : SrcAt w B b zs k) (hk : k < zs.length) (n m : Nat) : SrcAt (((w.drewN n).setCell ⟨b, 1, none⟩ (.int .i64 ((k : Int) + 1))).drewN m) B b zs (k + 1) := by
  obtain ⟨a, cap, hh, _, hl, hc, hz⟩ := h.ex
  refine ⟨h.base, a, cap, ?_, hk, hl, fun i hi => ?_, hz⟩
  · show ((w.drewN n).setCell ⟨b, 1, none⟩ (.int .i64 ((k : Int) + 1))).heap[b]? = _
    exact two_setCell1 (w := w.drewN n) hh
  · obtain ⟨db, off, rfl, hd, hcell⟩ := hc i hi
    refine ⟨db, off, rfl, hd, ?_⟩
    show ((w.drewN n).setCell ⟨b, 1, none⟩ (.int .i64 ((k : Int) + 1))).cell? _ = _
    rw [World.cell?_of_block (w := w.drewN n) (Below.heap_setCell _ _ _ _ (fun e => by have := h.base; have e' : db = b := e; omega))]
    exact hcell

theorem raw_any (B b : Nat) (zs : List Int) (k : Nat) (w : World) (h : SrcAt w B b zs k) :
    Calls Tryd.prog 45 #[.pointer (some ⟨b, 0, none⟩)] w (Read w B b zs I64) := by
  obtain ⟨a, cap, hh, hk, hl, hc, hz⟩ := h.ex
  by_cases hlt : k < zs.length
  · refine (raw_in B b zs k w h hlt).mono ?_
    rintro e w' ⟨rfl, n, m, rfl⟩
    exact ⟨_, k + 1, rfl, hz k, h.stepped hlt n m, only_drewN (only_setCell (only_drewN (only_refl w _) n) (.inl rfl) _) m⟩
  · obtain rfl : k = zs.length := by omega
    refine (raw_end B b zs w h).mono ?_
    rintro e w' ⟨rfl, n, rfl⟩
    exact ⟨0, zs.length, rfl, by unfold I64; omega, ⟨h.base, a, cap, hh, hk, hl, hc, hz⟩, only_drewN (only_refl w _) n⟩

set_option maxHeartbeats 400000 in
theorem sn_any (n : Int) (hn : 1 ≤ n) (hn' : n ≤ 9223372036854775807) (B b : Nat) (zs : List Int) (k : Nat) (w : World) (h : SrcAt w B b zs k) :
    Calls Tryd.prog 31 #[.pointer (some ⟨b, 0, none⟩), .int .i64 n] w (Read w B b zs fun z => 0 ≤ z ∧ z < n) := by
  have H := hidIt h
  clear h
  go_enter Tryd.func31, Tryd.ntmps31
  go_wp2_with (first | (go_at_call 45; refine (raw_any B b zs k _ H.out).mono ?_; rintro e w' ⟨z, k', rfl, hz, hs, hg⟩; have HZ := hidIt hz; have HS := hidIt hs; have HG := hidIt hg; clear hz hs hg) | (go_at_call 27; refine (mod_any _ _ HZ.out.1 HZ.out.2 (by omega) hn' _).mono ?_; rintro e w' ⟨rfl, rfl⟩))
  go_ret
  exact ⟨_, k', rfl, modI_bd _ _ hn, HS.out, HG.out⟩
end Go.Proofs.YtfiaoibfejginaaDoor
