/- The parser's functions: negation, primary, group. -/
import Derived.Test.YtpiiadmjddikfaaDoorSpec
import Derived.Laws.EntriesVeiled
namespace Go.Proofs.YtpiiadmjddikfaaDoor
set_option linter.unusedVariables false
set_option linter.unusedSimpArgs false
open Go.RowKit

/-- What a reading method leaves. -/
def PPost (w : World) (b : Nat) (s : ByteArray) (res : Option Tree × Rest) (e : Ending) (w' : World) : Prop :=
  ∃ (op : Int) (nm : ByteArray) (a : Option Addr) (n c : Nat), e = .returned (.tuple #[.agg #[.int .i64 op, .string nm, .slice a n c], .bool res.1.isSome]) ∧
    (∀ f, res.1 = some f → FormIn w' (fun i => w.heap.size ≤ i) (.agg #[.int .i64 op, .string nm, .slice a n c]) f) ∧ PAt w' b s res.2 ∧ w.grownBy w' (some b)

/-- The method number f reads what the specification says, at this rest. -/
def POk (f : Nat) (spec : Rest → Option Tree × Rest) (r : Rest) : Prop :=
  ∀ (w : World) (b : Nat) (s : ByteArray), PAt w b s r → Calls Tryd.prog f #[.pointer (some ⟨b, 0, none⟩)] w (PPost w b s (spec r))

/-- A block stays where another one is written. -/
theorem own_kept {w w' : World} {i b : Nat} {o : Obj} (h : w.heap[i]? = some o) (hg : w.grownBy w' (some b)) (hi : i ≠ b) : w'.heap[i]? = some o := by
  rw [hg.block i (lt_of_block h) (fun e => hi (by injection e))]
  exact h
theorem cells_free {w : World} {b : Nat} {x y z : Value} {t : TypeId} (h : w.heap[b]? = some (.cells #[x, y, z] t (0, 0))) : w.frozen? ⟨b, 0, none⟩ = false ∧ w.frozen? ⟨b, 1, none⟩ = false ∧ w.frozen? ⟨b, 2, none⟩ = false := ⟨free_any h 0, free_any h 1, free_any h 2⟩

/-- Writing a block that is newer than w changes nothing of w. -/
theorem only_new {w w2 w' : World} {b R : Nat} (h : w.grownBy w2 (some b)) (hg : w2.grownBy w' (some R)) (hR : w.heap.size ≤ R) : w.grownBy w' (some b) :=
  ⟨hg.os.trans h.os, hg.tape.trans h.tape, hg.output.trans h.output, Nat.le_trans h.size hg.size, fun i hi hne => (hg.block i (Nat.lt_of_lt_of_le hi h.size) (fun e => by injection e with e; omega)).trans (h.block i hi hne)⟩
theorem FormIn.over {w1 w2 w' : World} {R B : Nat} {v : Value} {t : Tree} (h : FormIn w2 (fun i => B ≤ i) v t) (hg : w2.grownBy w' (some R)) (hR : R < B) : FormIn w' (fun i => B ≤ i) v t :=
  h.kept fun i hi hl => hg.block i hl (fun e => by injection e with e; omega)
/-- Three cells of block R written. -/
theorem set_three (w : World) (R : Nat) (x y z : Value) : w.grownBy (((w.setCell ⟨R, 0, none⟩ x).setCell ⟨R, 1, none⟩ y).setCell ⟨R, 2, none⟩ z) (some R) := by
  have h1 : w.grownBy (w.setCell ⟨R, 0, none⟩ x) (some R) := only_setCell (p := ⟨R, 0, none⟩) (only_refl w (some R)) (.inl rfl) x
  have h2 : w.grownBy ((w.setCell ⟨R, 0, none⟩ x).setCell ⟨R, 1, none⟩ y) (some R) := only_setCell (p := ⟨R, 1, none⟩) h1 (.inl rfl) y
  exact only_setCell (p := ⟨R, 2, none⟩) h2 (.inl rfl) z

theorem notP_some (x : Option Tree × Rest) : (notP x).1.isSome = x.1.isSome := by obtain ⟨o, r⟩ := x; cases o <;> rfl
theorem notP_rest (x : Option Tree × Rest) : (notP x).2 = x.2 := by obtain ⟨o, r⟩ := x; cases o <;> rfl
theorem notP_tree {x : Option Tree × Rest} {f : Tree} (h : (notP x).1 = some f) : ∃ g, x.1 = some g ∧ f = .node 4 ⟨#[]⟩ [g] := by
  obtain ⟨o, r⟩ := x
  cases o with
  | none => cases h
  | some g => exact ⟨g, rfl, (Option.some.inj h).symm⟩
theorem i64_small {n : Int} (h : 0 ≤ n) (h' : n ≤ 9) : I64 n := by unfold I64; omega
theorem nil_le : (⟨#[]⟩ : ByteArray).size ≤ maxLen := Nat.zero_le _

set_option maxRecDepth 100000 in
set_option maxHeartbeats 1000000 in
theorem neg_walk (n : Nat) (r : Rest) (hneg : ∀ r', r'.length < r.length → POk 103 (pF n 4) r') (hprim : POk 113 (pF n 5) r) : POk 103 (pF (n + 1) 4) r := by
  intro w b s h
  obtain ⟨c0, c2⟩ := h.cells
  have hlt := h.lt
  have H := hidIt h
  obtain ⟨T, hT⟩ : ∃ T, T = (⟨(tok r).toArray⟩ : ByteArray) := ⟨_, rfl⟩
  have hTl : T.toList = tok r := by rw [hT, Lib.toList_data]
  rw [← hT] at c2
  have HN := hidIt hneg
  have HP := hidIt hprim
  clear hT hneg hprim h
  by_cases ht : tok r = [126]
  · have HE : Hid (pF (n + 1) 4 r = notP (pF n 4 (nxt r))) := by show _ = _; rw [pF4, if_pos ht]
    have hq : (T.toList == [126]) = true := by rw [hTl, ht]; rfl
    have hL : Hid ((nxt r).length < r.length) := nxt_lt (by decide) ht
    clear hTl ht
    go_enter Tryd.func103, Tryd.ntmps103
    go_wp2_with fail
    refine (next_at (H.out.alloc _)).mono ?_
    rintro e w1 ⟨rfl, hp1, hg1⟩
    have HP1 := hidIt hp1
    have HG1 : Hid (w.grownBy w1 (some b)) := only_trans (only_alloc (only_refl _ _) _) hg1
    have HK1 := hidIt (own_kept (heap_alloc_new w _) hg1 (by omega))
    have hlt1 := hp1.lt
    clear hp1 hg1 c0 c2
    go_wp2_with fail
    refine (HN.out (nxt r) hL.out w1 b s HP1.out).mono ?_
    rintro e w2 ⟨op, nm, a, k, c, rfl, hf, hp2, hg2⟩
    have HF2 := hidIt hf
    have HP2 := hidIt hp2
    have HG2 := hidIt (only_trans HG1.out hg2)
    have HK2 := hidIt (own_kept HK1.out hg2 (by omega))
    have hlt2 := hp2.lt
    have hsz1 := HG1.out.size
    have hsz2 := hg2.size
    have hR := lt_of_block HK2.out
    obtain ⟨r0, r1, r2⟩ := cell_of3 HK2.out
    obtain ⟨f0, f1, f2⟩ := cells_free HK2.out
    clear hf hp2 hg2
    generalize hok : (pF n 4 (nxt r)).1.isSome = okb at *
    have HOK := hidIt hok
    clear hok
    go_wp2_with fail
    refine bodyPost_ret (v := .tuple #[.agg #[.int .i64 4, .string ⟨#[]⟩, .slice (some ⟨w2.heap.size + 1, 0, none⟩) 1 1], .bool okb]) (by simp [results, Tryd.results103, go_sem, r0, r1, r2, hR]) rfl ?_
    have hgF : w2.grownBy (((((w2.setCell ⟨w.heap.size, 0, none⟩ (.int .i64 4)).setCell ⟨w.heap.size, 1, none⟩ (.string ⟨#[]⟩)).setCell ⟨w.heap.size, 2, none⟩ (.slice (some ⟨w2.heap.size + 1, 0, none⟩) 1 1)).alloc (.cells #[.int .i64 op, .string nm, .slice a k c] 24)).alloc (.cells #[.int .i64 op, .string nm, .slice a k c] 24)) (some w.heap.size) := only_alloc (only_alloc (set_three _ _ _ _ _) _) _
    refine ⟨4, ⟨#[]⟩, _, 1, 1, by rw [HE.out, notP_some, HOK.out], fun f hf => ?_, ?_, only_new HG2.out hgF (Nat.le_refl _)⟩
    · rw [HE.out] at hf
      obtain ⟨g, hg, rfl⟩ := notP_tree hf
      have hR1 := lt_of_block HK1.out
      have h1 := ((HF2.out g hg).over (w1 := w1) hgF (by omega)).mono (S' := fun i => w.heap.size ≤ i) (fun i _ hi => by omega)
      exact FormIn.mk (FormsIn.one (heap_alloc_at (by simp [World.setCell])) (by show _ ≤ _; omega) h1) rfl (i64_small (by omega) (by omega)) nil_le (Nat.le_refl _) (by unfold maxLen; simp)
    · rw [HE.out, notP_rest]
      exact HP2.out.kept hgF (fun e => by injection e with e; omega) (fun e => by injection e with e; omega)
  · have HE : Hid (pF (n + 1) 4 r = pF n 5 r) := by show _ = _; rw [pF4, if_neg ht]
    have hq : (T.toList == [126]) = false := by rw [hTl]; exact beq_eq_false_iff_ne.2 ht
    clear hTl ht
    go_enter Tryd.func103, Tryd.ntmps103
    go_wp2_with fail
    refine (HP.out _ b s (H.out.alloc _)).mono ?_
    rintro e w2 ⟨op, nm, a, k, c, rfl, hf, hp2, hg2⟩
    have HF2 := hidIt hf
    have HP2 := hidIt hp2
    have HG2 : Hid (w.grownBy w2 (some b)) := only_trans (only_alloc (only_refl _ _) _) hg2
    have HK2 := hidIt (own_kept (heap_alloc_new w _) hg2 (by omega))
    have hR := lt_of_block HK2.out
    obtain ⟨r0, r1, r2⟩ := cell_of3 HK2.out
    obtain ⟨f0, f1, f2⟩ := cells_free HK2.out
    clear hf hp2 hg2
    generalize hok : (pF n 5 r).1.isSome = okb at *
    have HOK := hidIt hok
    clear hok
    go_wp2_with fail
    refine bodyPost_ret (v := .tuple #[.agg #[.int .i64 op, .string nm, .slice a k c], .bool okb]) (by simp [results, Tryd.results103, go_sem, r0, r1, r2, hR]) rfl ?_
    have hgF := set_three w2 w.heap.size (.int .i64 op) (.string nm) (.slice a k c)
    refine ⟨op, nm, a, k, c, by rw [HE.out, HOK.out], fun f hf => ?_, ?_, only_new HG2.out hgF (Nat.le_refl _)⟩
    · rw [HE.out] at hf
      exact ((HF2.out f hf).over (w1 := w) hgF (by simp)).mono (fun i _ hi => by simp at hi; omega)
    · rw [HE.out]
      exact HP2.out.kept hgF (fun e => by injection e with e; omega) (fun e => by injection e with e; omega)
end Go.Proofs.YtpiiadmjddikfaaDoor
