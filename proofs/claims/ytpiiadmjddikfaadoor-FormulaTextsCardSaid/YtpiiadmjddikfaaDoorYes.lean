/- Lists of strings that a call owns, and the call that builds a list of atoms out of numbers. -/
import Derived.Test.YtpiiadmjddikfaaDoorSForm
import Derived.OwnWalk
namespace Go.Proofs.YtpiiadmjddikfaaDoor
set_option linter.unusedVariables false
set_option linter.unusedSimpArgs false
open Go.RowKit

theorem infoStr : (Tryd.prog.info? 9).map (fun i => (i.zero, i.size, i.bytes)) = some (some (.string ⟨#[]⟩), 1, 16) := by kernel_rfl

/-- The value is a list of strings that the call owns, from block B on. -/
def OwnS (w : World) (B : Nat) (v : Value) (l : List ByteArray) : Prop := w.ownsRow B 9 1 v l.length (l.map Value.string) ∧ ∀ s ∈ l, s.size ≤ maxLen

section
variable {w w' : World} {B : Nat} {v : Value} {l : List ByteArray}
theorem OwnS.block (h : OwnS w B v l) : ∀ g, v.ownBlock = some g → B ≤ g ∧ g < w.heap.size := World.ownsRow.lt h.1
theorem OwnS.nil (w : World) (B : Nat) : OwnS w B (.slice none 0 0) [] := ⟨World.ownsRow_nil w B _ _, fun s h => by cases h⟩
theorem OwnS.kept {row : Option Nat} (h : OwnS w B v l) (hg : w.grownBy w' row) (hr : ∀ g, row = some g → g < B) : OwnS w' B v l := by
  refine ⟨World.ownsRow.kept h.1 hg ?_, h.2⟩
  cases hv : v.ownBlock with
  | none => exact .inl rfl
  | some g =>
    refine .inr (fun e => ?_)
    have h2 := (h.block g hv).1
    have h3 := hr g e.symm
    omega
theorem OwnS.go (h : OwnS w B v l) (hb : Below w.heap.size w w') : OwnS w' B v l := h.kept (only_of_below hb none) (fun g e => by cases e)
theorem OwnS.alloc (h : OwnS w B v l) (o : Obj) : OwnS (w.alloc o) B v l := h.go ((Below.refl _ _).alloc (Nat.le_refl _) o)
theorem OwnS.form (h : OwnS w B v l) : ∃ (a : Option Addr) (c : Nat), v = .slice a l.length c ∧ l.length ≤ c ∧ c ≤ maxLen ∧ StrsIn w (fun k => B ≤ k) a l := by
  rcases h.1.2 with ⟨rfl, h0⟩ | ⟨g, cap, cur, rfl, hB, hg, hnc, hcm, hcs, htake⟩
  · obtain rfl : l = [] := List.eq_nil_of_length_eq_zero h0
    exact ⟨none, 0, rfl, Nat.le_refl _, Nat.zero_le _, StrsIn.nil none⟩
  · refine ⟨_, cap, rfl, hnc, hcm, g, 0, fun _ => ⟨rfl, hB⟩, fun i hi => ⟨?_, h.2 _ (List.getElem_mem hi)⟩⟩
    have := World.ownsRow.cells h.1 (g := g) rfl i (.string l[i]) (by simp [List.getElem?_eq_getElem hi])
    have e : (⟨g, 0, none⟩ : Addr).add i = ⟨g, 0 + i, none⟩ := by unfold Addr.add; split <;> simp_all
    rwa [e] at this
end

/-- append of one string, which lies in a row of its own. -/
theorem wpList_append_str {w : World} {ops : Array Oper} {rest : List Oper} {o : Oper} {a : Act} {Q : Exit → Act → World → Prop} (hgd : o.guard = none) (s x : Operand)
    (ho : o.op = .call { callee := .builtin .append, args := #[s, x], argTypes := #[42, 42] }) (B : Nat) (v : Value) (l : List ByteArray) (hs : a.eval s = v) (hown : OwnS w B v l)
    (m c1 : Nat) (hx : a.eval x = .slice (some ⟨m, 0, none⟩) 1 c1) {t : ByteArray} {ty : TypeId} (hm : w.heap[m]? = some (.cells #[.string t] ty (0, 0))) (ht : t.size ≤ maxLen) (hlen : l.length ≤ 1000000) (hB : B ≤ w.heap.size)
    (h : ∀ v' w', OwnS w' B v' (l ++ [t]) → w.grownBy w' v.ownBlock → wpList Tryd.prog ops Q rest (a.put o.dst v') w') : wpList Tryd.prog ops Q (o :: rest) a w := by
  obtain ⟨i0, hi, hz0, hz1, hz2⟩ := info_parts infoStr
  refine wpList_append_own w hgd s x 42 ho B 9 i0 _ 1 16 Tryd.underlying42 hi hz0 hz1 hz2 rfl (by decide) v l.length _ hs hown.1 ⟨m, 0, none⟩ 1 c1 [.string t] hx rfl ?_ (fun u hu => by rw [List.mem_singleton.1 hu]; rfl) (by unfold maxLen; omega) (by omega) hB (fun v' w' h2 h3 _ => ?_)
  · intro j u hj
    match j, hj with
    | 0, hj =>
      simp only [List.getElem?_cons_zero, Option.some.injEq] at hj
      rw [← hj]
      have e : (⟨m, 0, none⟩ : Addr).add 0 = ⟨m, 0, none⟩ := rfl
      rw [e]
      exact cell_one0 hm
    | j + 1, hj => simp at hj
  · refine h v' w' ⟨?_, fun s hs => ?_⟩ h3
    · rw [List.map_append, List.length_append]
      exact h2
    · rcases List.mem_append.1 hs with h4 | h4
      · exact hown.2 s h4
      · rw [List.mem_singleton.1 h4]; exact ht

/-- The atoms that are true are letters of the first n. -/
def Letters (n : Nat) (l : List ByteArray) : Prop := ∀ s ∈ l, ∃ m, m < n ∧ s = letter m

theorem sA_own {w a a' : World} {b : Nat} {row : Option Nat} (h : w.grownBy a (some b)) (hg : a.grownBy a' row) (hr : ∀ g, row = some g → w.heap.size ≤ g) : w.grownBy a' (some b) :=
  ⟨hg.os.trans h.os, hg.tape.trans h.tape, hg.output.trans h.output, Nat.le_trans h.size hg.size, fun k hk hne => (hg.block k (Nat.lt_of_lt_of_le hk h.size) (fun e => by have := hr k e.symm; omega)).trans (h.block k hk hne)⟩
theorem SrcAt.own {w w' : World} {B b : Nat} {zs : List Int} {k Bo : Nat} {row : Option Nat} (h : SrcAt w B b zs k) (hg : w.grownBy w' row) (hr : ∀ g, row = some g → Bo ≤ g) (hb : b < Bo) : SrcAt w' B b zs k :=
  h.kept hg (fun g e => ⟨by have := hr g e; have := h.base; omega, by have := hr g e; omega⟩)

set_option maxRecDepth 100000 in
set_option maxHeartbeats 2000000 in
theorem yes_any (n : Nat) (hn : n ≤ 26) (B b : Nat) (zs : List Int) (k : Nat) (w : World) (h : SrcAt w B b zs k) :
    Calls Tryd.prog 25 #[.pointer (some ⟨b, 0, none⟩), .int .i64 (n : Int)] w fun e w' => ∃ (v : Value) (l : List ByteArray) (q : Nat), e = .returned v ∧ OwnS w' w.heap.size v l ∧ l.length ≤ n ∧ Letters n l ∧ SrcAt w' B b zs q ∧ w.grownBy w' (some b) := by
  have hlt := h.lt
  have H := hidIt h
  clear h
  go_enter Tryd.func25, Tryd.ntmps25
  go_wp2_with fail
  go_loopw [5, 6] (fun v i wr => ∃ (k q : Nat) (l : List ByteArray), i = .int .i64 k ∧ k ≤ n ∧ l.length ≤ k ∧ Hid (OwnS wr w.heap.size v l) ∧ Hid (Letters n l) ∧ Hid (SrcAt wr B b zs q) ∧ Hid (w.grownBy wr (some b))) (fun _ i _ => n - (intOf i).toNat)
  case atStart => exact ⟨0, k, [], rfl, by omega, by simp, OwnS.nil _ _, (fun s hs => by cases hs), H.out, only_refl _ _⟩
  case round =>
    clear H
    obtain ⟨k, q, l, rfl, hk, hl, hown, hlet, hsrc, hgr⟩ := hrel
    by_cases hlt2 : k < n
    · go_wp2_with fail
      refine (sn_nat 2 (by omega) (by omega) B b zs q _ hsrc.out).mono ?_
      rintro e w2 ⟨m, q2, rfl, hm, hs2, hg2⟩
      have HS2 := hidIt hs2
      have HG2 := hidIt (only_trans hgr.out hg2)
      have HO2 := hidIt (hown.out.kept hg2 (fun g e => by injection e with e; omega))
      have hsz2 : w.heap.size ≤ w2.heap.size := HG2.out.size
      clear hs2 hg2
      by_cases hm1 : m = 1
      · subst hm1
        have hcv := conv_letter k (by omega) w2 (97 + (k : Int)) rfl
        have hbw : w.heap.size ≤ ((w2.alloc (.cells #[.int .u8 (97 + (k : Int))] 5)).alloc (.cells #[.string (letter k)] 9)).heap.size := by simp; omega
        have HNW := hidIt (heap_alloc_at (w := w2.alloc (.cells #[.int .u8 (97 + (k : Int))] 5)) (o := .cells #[.string (letter k)] 9) (n := w2.heap.size + 1) (by simp))
        have HO3 := hidIt ((HO2.out.alloc (.cells #[.int .u8 (97 + (k : Int))] 5)).alloc (.cells #[.string (letter k)] 9))
        have HBW := hidIt hbw
        clear hbw
        go_wp2_with (at_builtin; refine wpList_append_str rfl _ _ rfl w.heap.size _ l rfl HO3.out _ 1 rfl HNW.out (by rw [letter_size]; unfold maxLen; omega) (by omega) HBW.out ?_)
        intro v' w3 ho3 hg3
        have hr0 : ∀ gg, u5.ownBlock = some gg → w.heap.size ≤ gg := fun gg e => (hown.out.block gg e).1
        have HO4 := hidIt ho3
        have HS3 := hidIt (((HS2.out.alloc (.cells #[.int .u8 (97 + (k : Int))] 5)).alloc (.cells #[.string (letter k)] 9)).own hg3 hr0 hlt)
        have HG3 := hidIt (sA_own (only_alloc (only_alloc HG2.out (.cells #[.int .u8 (97 + (k : Int))] 5)) (.cells #[.string (letter k)] 9)) hg3 hr0)
        have HL3 : Hid (Letters n (l ++ [letter k])) := fun s hs => by
          rcases List.mem_append.1 hs with h1 | h1
          · exact hlet.out s h1
          · rw [List.mem_singleton.1 h1]; exact ⟨k, hlt2, rfl⟩
        clear ho3 hg3 hr0 hcv
        go_wp2_with fail
        go_roundw
        case rel => exact ⟨k + 1, q2, l ++ [letter k], by go_num, by omega, by simp; omega, HO4, HL3, HS3, HG3⟩
        case measure => simp [intOf]; omega
      · have hm0 : ((m : Int) == 1) = false := by simp; omega
        go_wp2_with fail
        go_roundw
        case rel => exact ⟨k + 1, q2, l, by go_num, by omega, by omega, HO2, hlet, HS2, HG2⟩
        case measure => simp [intOf]; omega
    · go_wp2_with fail
      go_ret
      exact ⟨_, l, q, rfl, hown.out, by omega, hlet.out, hsrc.out, hgr.out⟩
end Go.Proofs.YtpiiadmjddikfaaDoor
