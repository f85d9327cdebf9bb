/- Lists of strings: one appended to another; a list that came in. -/
import Derived.Test.YtpiiadmjddikfaaDoorYes
import Derived.Test.YtpiiadmjddikfaaDoorOpenF
import Derived.Laws.AppendOwnNone
namespace Go.Proofs.YtpiiadmjddikfaaDoor
set_option linter.unusedVariables false
set_option linter.unusedSimpArgs false
open Go.ChangeShapes Go.WideShapes Go.ChangeAt Go.RowKit Go.Joins

theorem OwnS.made (w : World) (B : Nat) (hB : B ≤ w.heap.size) : OwnS (w.alloc (.cells #[] 9)) B (.slice (some ⟨w.heap.size, 0, none⟩) 0 0) [] :=
  ⟨⟨rfl, .inr ⟨w.heap.size, 0, #[], rfl, hB, heap_alloc_new w _, Nat.le_refl _, Nat.zero_le _, rfl, rfl⟩⟩, fun s h => by cases h⟩

/-- append of a list of strings. -/
theorem wpList_append_strs {w : World} {ops : Array Oper} {rest : List Oper} {o : Oper} {a : Act} {Q : Exit → Act → World → Prop} (hgd : o.guard = none) (s x : Operand)
    (ho : o.op = .call { callee := .builtin .append, args := #[s, x], argTypes := #[42, 42] }) (B : Nat) (v : Value) (l : List ByteArray) (hs : a.eval s = v) (hown : OwnS w B v l)
    (B2 : Nat) (vx : Value) (m : List ByteArray) (hx : a.eval x = vx) (hxo : OwnS w B2 vx m) (hlen : l.length ≤ 1000000) (hlen2 : m.length ≤ 1000000) (hB : B ≤ w.heap.size)
    (h : ∀ v' w', OwnS w' B v' (l ++ m) → w.grownBy w' v.ownBlock → wpList Tryd.prog ops Q rest (a.put o.dst v') w') : wpList Tryd.prog ops Q (o :: rest) a w := by
  obtain ⟨i0, hi, hz0, hz1, hz2⟩ := info_parts infoStr
  rcases hxo.1.2 with ⟨rfl, h0⟩ | ⟨g, cap, cur, rfl, hg, hgb, hnc, hcm, hcs, htake⟩
  · obtain rfl : m = [] := List.eq_nil_of_length_eq_zero h0
    refine wpList_append_own_none hgd s x 42 ho B 9 i0 1 Tryd.underlying42 hi v l.length _ hs hown.1 hx (h v w ?_ (only_refl w _))
    rw [List.append_nil]
    exact hown
  · refine wpList_append_own w hgd s x 42 ho B 9 i0 _ 1 16 Tryd.underlying42 hi hz0 hz1 hz2 rfl (by decide) v l.length _ hs hown.1 ⟨g, 0, none⟩ m.length cap (m.map Value.string) hx (by simp) ?_ (fun u hu => by obtain ⟨t, -, rfl⟩ := List.mem_map.1 hu; rfl) (by unfold maxLen; omega) (by omega) hB (fun v' w' h2 h3 _ => ?_)
    · intro j u hj
      exact World.ownsRow.cells hxo.1 (g := g) rfl j u hj
    · refine h v' w' ⟨?_, fun t ht => ?_⟩ h3
      · rw [List.map_append, List.length_append]
        exact h2
      · rcases List.mem_append.1 ht with h4 | h4
        · exact hown.2 t h4
        · exact hxo.2 t h4

theorem below_over2 {w1 w wa w' : World} {row : Option Nat} (h : Below w1.heap.size w1 w) (ha : Below w.heap.size w wa) (hg : wa.grownBy w' row) (hr : ∀ g, row = some g → w1.heap.size ≤ g) : Below w1.heap.size w1 w' :=
  have h2 := h.trans (Below.mono ha h.size)
  ⟨hg.os.trans h2.os, hg.tape.trans h2.tape, hg.output.trans h2.output, Nat.le_trans h2.size hg.size, fun i hi => (hg.block i (Nat.lt_of_lt_of_le hi h2.size) (fun e => by have := hr i e.symm; omega)).trans (h2.block i hi)⟩

theorem OwnS.strs {w : World} {B n c : Nat} {a : Option Addr} {l : List ByteArray} (h : OwnS w B (.slice a n c) l) : StrsIn w (fun _ => True) a l := by
  obtain ⟨a', c', e, -, -, hs⟩ := h.form
  injection e with e1
  subst e1
  exact hs.mono fun _ _ _ => trivial

/-- A list of strings that came in. -/
def StrsArg (w : World) (v : Value) (l : List ByteArray) : Prop := ∃ (a : Option Addr) (c : Nat), v = .slice a l.length c ∧ l.length ≤ c ∧ c ≤ maxLen ∧ StrsIn w (fun _ => True) a l

set_option maxRecDepth 100000 in
theorem strs_of_trod {H : Type} {enc : TypeId × Value → H} {w : World} {r : Reach} {b0 base : Nat} {spare : Nat → Bool} {held : Bool} {v : Value} {d : DataW H} {p : List MemPlace}
    (hv : Value.okWide Tryd.prog w r b0 42 v) (h : DataW.Trod enc Tryd.prog w base spare held 42 v d p) : ∃ l : List ByteArray, StrsArg w v l := by
  obtain ⟨a, len, cap, rfl⟩ := okWide_slice Tryd.underlying42 hv
  obtain ⟨fuel, hf⟩ := h
  rcases DataW.trod_slice Tryd.underlying42 hf with ⟨hcs, -⟩ | ⟨x, l, c, elems, rest, n2, hn2, hcs, -, hb, hlc, hmx, hlen, hel, -, -⟩
  · simp [Value.cells] at hcs
    obtain ⟨rfl, rfl, rfl⟩ := hcs
    exact ⟨[], none, 0, rfl, Nat.le_refl _, Nat.zero_le _, StrsIn.nil none⟩
  · simp [Value.cells] at hcs
    obtain ⟨rfl, rfl, rfl⟩ := hcs
    obtain ⟨b, off, sp⟩ := x
    have hC : Tryd.prog.cellsOf 9 = 1 := by kernel_rfl
    have key : ∀ i, i < len → ∃ s : ByteArray, w.cell? ((⟨b, off, sp⟩ : Addr).add i) = some (.string s) ∧ s.size ≤ maxLen := fun i hi => by
      have h3 := hel i hi
      rw [hC, List.getElem?_eq_getElem (by omega), Nat.mul_one] at h3
      obtain ⟨cs', hc, ht⟩ := Option.bind_eq_some_iff.1 h3
      obtain ⟨-, hcl, hat⟩ := World.cells?_some hc
      obtain ⟨s, rfl, -, hs⟩ := DataW.trod_string Tryd.underlying9 ht
      have g0 := hat 0 (by omega)
      have e : ((⟨b, off, sp⟩ : Addr).add i).add 0 = (⟨b, off, sp⟩ : Addr).add i := by simp [Addr.add]
      rw [e] at g0
      exact ⟨s, g0, hs⟩
    have hsp : 0 < len → sp = none := fun hl0 => by
      obtain ⟨s, g0, -⟩ := key 0 hl0
      have e : (⟨b, off, sp⟩ : Addr).add 0 = ⟨b, off, sp⟩ := by simp [Addr.add]
      rw [e] at g0
      unfold World.cell? at g0
      cases sp with
      | none => rfl
      | some q =>
        exfalso
        simp only [Option.isSome_some, if_true] at g0
        split at g0 <;> cases g0
    have key2 : ∀ i, ∃ s : ByteArray, i < len → w.cell? ⟨b, off + i, none⟩ = some (.string s) ∧ s.size ≤ maxLen := fun i => by
      by_cases hi : i < len
      · obtain ⟨s, g0, hs⟩ := key i hi
        obtain rfl := hsp (by omega)
        rw [add_plain] at g0
        exact ⟨s, fun _ => ⟨g0, hs⟩⟩
      · exact ⟨⟨#[]⟩, fun h => absurd h hi⟩
    have hlen' : ((List.range len).map fun i => Classical.choose (key2 i)).length = len := by simp
    refine ⟨(List.range len).map fun i => Classical.choose (key2 i), some ⟨b, off, sp⟩, cap, by rw [hlen'], by rw [hlen']; exact hlc, hmx, b, off, fun h0 => ⟨by rw [hsp (by rw [hlen'] at h0; exact h0)], trivial⟩, fun i hi => ?_⟩
    have hi' : i < len := by rw [hlen'] at hi; exact hi
    obtain ⟨g0, hs⟩ := Classical.choose_spec (key2 i) hi'
    have e : ((List.range len).map fun i => Classical.choose (key2 i))[i] = Classical.choose (key2 i) := by simp
    rw [e]
    exact ⟨g0, hs⟩

set_option maxRecDepth 100000 in
theorem form_of_trod {H : Type} {enc : TypeId × Value → H} {w : World} {r : Reach} {b0 base : Nat} {spare : Nat → Bool} {held : Bool} {v : Value} {d : DataW H} {p : List MemPlace}
    (hv : Value.okWide Tryd.prog w r b0 24 v) (h : DataW.Trod enc Tryd.prog w base spare held 24 v d p) : ∃ t : Tree, FormAt w none v t := form_open hv h
end Go.Proofs.YtpiiadmjddikfaaDoor
