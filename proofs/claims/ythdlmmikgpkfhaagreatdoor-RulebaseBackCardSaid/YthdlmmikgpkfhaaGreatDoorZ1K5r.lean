/- Relations for drawn regions beside a reader of numbers: the class of worlds that grow but for the reader's block. -/
import Derived.Test.YthdlmmikgpkfhaaGreatDoorZ1K
import Derived.Test.YthdlmmikgpkfhaaGreatDoorZ1RelV

namespace Go.Proofs.YthdlmmikgpkfhaaGreatDoor.Own
set_option linter.unusedVariables false
set_option linter.unusedSimpArgs false
open Go Go.RowKit

/-- Worlds that grow from W but for the reader's block. -/
def CB (W : World) (B b : Nat) (zs : List Int) (w : World) : Prop := W.grownBy w (some b) ∧ ∃ q, SrcAt w B b zs q
def GB (b : Nat) (w w' : World) : Prop := w.grownBy w' (some b)
def UpB (b : Nat) (r : Value → World → Prop) : Prop := ∀ v w w', GB b w w' → r v w → r v w'
theorem CB.start {W : World} {B b q : Nat} {zs : List Int} (h : SrcAt W B b zs q) : CB W B b zs W.drew := ⟨only_of_below (Below.refl _ _).drew _, q, h.grow (only_of_below (Below.refl _ _).drew none)⟩
theorem CB.one (W : World) (B b : Nat) (zs : List Int) (q : Nat) (h : SrcAt W B b zs q) : CB W B b zs W := ⟨only_refl _ _, q, h⟩
theorem CB.grown {W w w' : World} {B b : Nat} {zs : List Int} (h : CB W B b zs w) (hb : Below w.heap.size w w') : CB W B b zs w' := by
  obtain ⟨h1, q, h2⟩ := h
  exact ⟨only_trans h1 (only_of_below hb _), q, h2.grow (only_of_below hb none)⟩
theorem stableB_nil (C : World → Prop) (b : Nat) : Stable C (GB b) (relTab []) := ⟨fun _ _ h => h.size, fun s r h => by cases h⟩
theorem stableB_cons {C : World → Prop} {b : Nat} {t : Nat} {r : RelO} {l : List (Nat × RelO)} (hr : UpB b r.rel) (h : Stable C (GB b) (relTab l)) : Stable C (GB b) (relTab ((t, r) :: l)) := by
  refine ⟨h.1, fun s r' hs => ?_⟩
  unfold relTab at hs
  split at hs
  · injection hs with hs
    subst hs
    exact fun v w w' _ _ hg hv => hr v w w' hg hv
  · exact h.2 s r' hs
def isNat (n : Nat) : Value → World → Prop := fun v _ => ∃ m : Nat, v = .int .i64 (m : Int) ∧ m < n
theorem isNat_up (b n : Nat) : UpB b (isNat n) := fun _ _ _ _ h => h
def isLtr (n : Nat) : Value → World → Prop := fun v _ => ∃ (g : Bool) (m : Nat), v = .agg #[.bool g, .string (letter m)] ∧ m < n
theorem isLtr_up (b n : Nat) : UpB b (isLtr n) := fun _ _ _ _ h => h
/-- A new box with these cells. -/
def isBoxB (L b : Nat) (cs : Array Value) (t : TypeId) : Value → World → Prop := fun v w => ∃ nb : Nat, v = .pointer (some ⟨nb, 0, none⟩) ∧ L ≤ nb ∧ nb ≠ b ∧ w.heap[nb]? = some (.cells cs t (0, 0))
theorem keptB {b nb : Nat} {w w' : World} {o : Obj} (hg : GB b w w') (hne : nb ≠ b) (h : w.heap[nb]? = some o) : w'.heap[nb]? = some o := by
  have hl : nb < w.heap.size := by
    rcases Nat.lt_or_ge nb w.heap.size with h' | h'
    · exact h'
    · rw [Array.getElem?_eq_none h'] at h; cases h
  exact (World.grownBy.block hg nb hl (fun e => hne (by injection e))).trans h
theorem isBoxB_up (L b : Nat) (cs : Array Value) (t : TypeId) : UpB b (isBoxB L b cs t) := fun _ _ _ hg ⟨nb, h1, h2, h3, h4⟩ => ⟨nb, h1, h2, h3, keptB hg h3 h4⟩
/-- A new row of one promotion of this name. -/
def isPrB (L b n : Nat) (nm : ByteArray) : Value → World → Prop := fun v w => ∃ (nb m : Nat) (g : Bool) (hm : Nat), v = .slice (some ⟨nb, 0, none⟩) 1 1 ∧ L ≤ nb ∧ nb ≠ b ∧ m < 10 ∧ hm < n ∧ w.heap[nb]? = some (.cells #[.string nm, .int .i64 (m : Int), .bool g, .string (letter hm)] 68 (0, 0))
theorem isPrB_up (L b n : Nat) (nm : ByteArray) : UpB b (isPrB L b n nm) := fun _ _ _ hg ⟨nb, m, g, hm, h1, h2, h3, h4, h5, h6⟩ => ⟨nb, m, g, hm, h1, h2, h3, h4, h5, keptB hg h3 h6⟩

theorem callB {P : Program} {f : FuncId} {args : Array Value} {W w : World} {B b : Nat} {zs : List Int} {r : Value → World → Prop} (hC : CB W B b zs w) (h : Calls P f args w fun e w' => ∃ u, e = .returned u ∧ r u w' ∧ (∃ q, SrcAt w' B b zs q) ∧ w.grownBy w' (some b)) :
    Calls P f args w fun e w'' => ∃ u, e = .returned u ∧ CB W B b zs w'' ∧ GB b w w'' ∧ relR (rA r) w u w'' :=
  h.mono fun _ _ ⟨u, he, hr, hs, hg⟩ => ⟨u, he, ⟨only_trans hC.1 hg, hs⟩, hg, hr, fun h => by cases h⟩
theorem callN {W w : World} {B b : Nat} {zs : List Int} (n : Nat) (hn : 1 ≤ n) (hn' : (n : Int) ≤ 9223372036854775807) (hC : CB W B b zs w) :
    Calls Tryz.prog 33 #[.pointer (some ⟨b, 0, none⟩), .int .i64 (n : Int)] w fun e w'' => ∃ u, e = .returned u ∧ CB W B b zs w'' ∧ GB b w w'' ∧ relR (rA (isNat n)) w u w'' := by
  obtain ⟨q, hq⟩ := hC.2
  exact callB hC ((sn_nat (n : Int) (by omega) hn' B b zs q w hq).mono fun e w' ⟨m, k', he, hm, hs, hg⟩ => ⟨_, he, ⟨m, rfl, by omega⟩, ⟨k', hs⟩, hg⟩)
theorem callLit {W w : World} {B b : Nat} {zs : List Int} (n : Nat) (hn : 1 ≤ n) (hn' : n ≤ 26) (hC : CB W B b zs w) :
    Calls Tryz.prog 25 #[.pointer (some ⟨b, 0, none⟩), .int .i64 (n : Int)] w fun e w'' => ∃ u, e = .returned u ∧ CB W B b zs w'' ∧ GB b w w'' ∧ relR (rA (isLtr n)) w u w'' := by
  obtain ⟨q, hq⟩ := hC.2
  exact callB hC ((slit_any (n : Int) (by omega) (by omega) B b zs q w hq).mono fun e w' ⟨g, m, k', he, hm, hs, hg⟩ => ⟨_, he, ⟨g, m, rfl, by omega⟩, ⟨k', hs⟩, hg⟩)
theorem boxB {W w : World} {B b L : Nat} {zs : List Int} (hC : CB W B b zs w) (hL : L ≤ W.heap.size) (cs : Array Value) (t : TypeId) : CB W B b zs (w.alloc (.cells cs t)) ∧ GB b w (w.alloc (.cells cs t)) ∧ relR (rA (isBoxB L b cs t)) w (.pointer (some ⟨w.heap.size, 0, none⟩)) (w.alloc (.cells cs t)) := by
  obtain ⟨q, hq⟩ := hC.2
  exact ⟨hC.grown (bgrow w _), only_of_below (bgrow w _) _, ⟨_, rfl, Nat.le_trans hL hC.1.size, by have := hq.lt; omega, heap_alloc_new _ _⟩, fun h => by cases h⟩
theorem prB {W w : World} {B b L n m hm : Nat} {g : Bool} {nm : ByteArray} {zs : List Int} (hC : CB W B b zs w) (hL : L ≤ W.heap.size) (h1 : m < 10) (h2 : hm < n) :
    CB W B b zs (w.alloc (.cells #[.string nm, .int .i64 (m : Int), .bool g, .string (letter hm)] 68)) ∧ GB b w (w.alloc (.cells #[.string nm, .int .i64 (m : Int), .bool g, .string (letter hm)] 68)) ∧
      relR (rA (isPrB L b n nm)) w (.slice (some ⟨w.heap.size, 0, none⟩) 1 1) (w.alloc (.cells #[.string nm, .int .i64 (m : Int), .bool g, .string (letter hm)] 68)) := by
  obtain ⟨q, hq⟩ := hC.2
  exact ⟨hC.grown (bgrow w _), only_of_below (bgrow w _) _, ⟨_, m, g, hm, rfl, Nat.le_trans hL hC.1.size, by have := hq.lt; omega, h1, h2, heap_alloc_new _ _⟩, fun h => by cases h⟩
/-- What a cell of an older block holds in the class. -/
theorem CB.cell {W w : World} {B b p o : Nat} {zs : List Int} {u : Value} (hC : CB W B b zs w) (h : W.cell? ⟨p, o, none⟩ = some u) (hne : p ≠ b) : w.cell? ⟨p, o, none⟩ = some u := hC.1.cell h (fun e => hne (by injection e))
end Go.Proofs.YthdlmmikgpkfhaaGreatDoor.Own
