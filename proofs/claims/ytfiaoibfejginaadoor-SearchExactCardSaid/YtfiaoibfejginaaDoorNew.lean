/- The call that makes a reader of numbers out of a list: for every list. -/
import Derived.Test.YtfiaoibfejginaaDoorKeep
namespace Go.Proofs.YtfiaoibfejginaaDoor
set_option linter.unusedVariables false
set_option linter.unusedSimpArgs false
open Go.RowKit

/-- The value is a list of ints that lies below block B and reads as zs. -/
def IntsAt (w : World) (B : Nat) (l : Value) (zs : List Int) : Prop :=
  (l = .slice none 0 0 ∧ zs = []) ∨
  ∃ (x : Addr) (cap : Nat), l = .slice (some x) zs.length cap ∧ zs.length ≤ cap ∧ cap ≤ maxLen ∧
    (∀ i, i < zs.length → ∃ db off, x = ⟨db, off, none⟩ ∧ db < B ∧ w.cell? ⟨db, off + i, none⟩ = some (.int .i64 (zs.getD i 0))) ∧ (∀ i, -9223372036854775808 ≤ zs.getD i 0 ∧ zs.getD i 0 ≤ 9223372036854775807)

theorem IntsAt.kept {w w' : World} {B : Nat} {l : Value} {zs : List Int} {row : Option Nat} (h : IntsAt w B l zs) (hg : w.grownBy w' row) (hr : ∀ g, row = some g → B ≤ g) : IntsAt w' B l zs := by
  rcases h with h | ⟨x, cap, h1, h2, h3, h5, h6⟩
  · exact .inl h
  · refine .inr ⟨x, cap, h1, h2, h3, fun i hi => ?_, h6⟩
    obtain ⟨db, off, e, hd, hc⟩ := h5 i hi
    exact ⟨db, off, e, hd, hg.cell hc (fun e => by have := hr db e.symm; omega)⟩

/-- The reader's block as New lays it. -/
def newBlk (a : Option Addr) (n cap : Nat) : Obj := .cells #[.slice a n cap, .int .i64 0] 51

set_option maxHeartbeats 400000 in
theorem new_short (x : Addr) (len cap : Nat) (h : len ≤ 2000) (hc : len ≤ cap) (hm : cap ≤ maxLen) (w : World) :
    Calls Tryd.prog 9 #[.slice (some x) len cap] w fun e w' => e = .returned (.pointer (some ⟨w.heap.size, 0, none⟩)) ∧ w' = w.alloc (newBlk (some x) len cap) := by
  unfold maxLen at hm
  go_enter Tryd.func9, Tryd.ntmps9
  go_wp2
  go_ret
  exact ⟨rfl, rfl⟩

set_option maxHeartbeats 400000 in
theorem new_long (x : Addr) (len cap : Nat) (h : 2000 < len) (hc : len ≤ cap) (hm : cap ≤ maxLen) (w : World) :
    Calls Tryd.prog 9 #[.slice (some x) len cap] w fun e w' => e = .returned (.pointer (some ⟨w.heap.size, 0, none⟩)) ∧ w' = w.alloc (newBlk (some x) 2000 cap) := by
  unfold maxLen at hm
  go_enter Tryd.func9, Tryd.ntmps9
  go_wp2
  go_ret
  exact ⟨rfl, rfl⟩

set_option maxHeartbeats 400000 in
theorem new_nil (w : World) :
    Calls Tryd.prog 9 #[.slice none 0 0] w fun e w' => e = .returned (.pointer (some ⟨w.heap.size, 0, none⟩)) ∧ w' = w.alloc (newBlk none 0 0) := by
  go_enter Tryd.func9, Tryd.ntmps9
  go_wp2
  go_ret
  exact ⟨rfl, rfl⟩

theorem getD_take (zs : List Int) (n i : Nat) : (zs.take n).getD i 0 = if i < n then zs.getD i 0 else 0 := by
  rw [List.getD_eq_getElem?_getD, List.getD_eq_getElem?_getD, List.getElem?_take]
  split <;> rfl

/-- For every list: a new reader of at most its first 2000 numbers. -/
theorem new_any (l : Value) (zs : List Int) (B : Nat) (w : World) (h : IntsAt w B l zs) (hB : B ≤ w.heap.size) :
    Calls Tryd.prog 9 #[l] w fun e w' => ∃ zs' : List Int, e = .returned (.pointer (some ⟨w.heap.size, 0, none⟩)) ∧ SrcAt w' B w.heap.size zs' 0 ∧ ∃ o : Obj, w' = w.alloc o := by
  rcases h with ⟨rfl, rfl⟩ | ⟨x, cap, rfl, h2, h3, h5, h6⟩
  · refine (new_nil w).mono ?_
    rintro e w' ⟨rfl, rfl⟩
    exact ⟨[], rfl, ⟨hB, none, 0, heap_alloc_new w _, Nat.zero_le _, Nat.zero_le _, fun i hi => by simp at hi, fun i => by simp⟩, _, rfl⟩
  · by_cases hl : zs.length ≤ 2000
    · refine (new_short x zs.length cap hl h2 h3 w).mono ?_
      rintro e w' ⟨rfl, rfl⟩
      refine ⟨zs, rfl, ⟨hB, some x, cap, heap_alloc_new w _, Nat.zero_le _, hl, fun i hi => ?_, h6⟩, _, rfl⟩
      obtain ⟨db, off, rfl, hd, hc⟩ := h5 i hi
      exact ⟨db, off, rfl, hd, (World.grownBy_alloc w _ none).cell hc (by simp)⟩
    · refine (new_long x zs.length cap (by omega) h2 h3 w).mono ?_
      rintro e w' ⟨rfl, rfl⟩
      have hlen : (zs.take 2000).length = 2000 := by rw [List.length_take]; omega
      refine ⟨zs.take 2000, rfl, ⟨hB, some x, cap, by rw [hlen]; exact heap_alloc_new w _, Nat.zero_le _, by omega, fun i hi => ?_, fun i => ?_⟩, _, rfl⟩
      · obtain ⟨db, off, rfl, hd, hc⟩ := h5 i (by omega)
        refine ⟨db, off, rfl, hd, ?_⟩
        rw [getD_take, if_pos (by omega)]
        exact (World.grownBy_alloc w _ none).cell hc (by simp)
      · rw [getD_take]
        split
        · exact h6 i
        · omega
end Go.Proofs.YtfiaoibfejginaaDoor
