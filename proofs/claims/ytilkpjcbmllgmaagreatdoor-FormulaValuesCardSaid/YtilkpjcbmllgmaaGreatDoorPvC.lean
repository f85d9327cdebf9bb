/- The parser's group and primary. The call that builds a formula out of numbers. Lists of strings that a call owns, and the call that builds a list of atoms out of numbers. Steps of the walk of XRel, and relations on formulas. The program's Same, at two formulas whatever. append of a whole list of formulas to an empty one that was just built: the copy is the call's own, the formulas lie where they lay. formula.every at the body of a loop that ranges over formula.nodes: every node comes, in order. The plain mathematics of a formula's atoms: ascending strings, each once. slices.Sorted(maps.Keys(m)) for a map of strings to bools that the call made: the strings in ascending order, each once. The value of a formula: formula.value, wellFormed and Eval. Copies of formulas with new arguments: withArgs, clone and Substitute. Substitution in formulas: what it does to values. formula.Substitute, for every formula. formula.Atoms: the names of the atoms, ascending, each once. The value of a formula depends on its own atoms alone: the plain mathematics of the law FormulaOwn. formula.Format. The parser's pair. The parser's row. -/
import Derived.BigRegion
import Derived.Deep.RegionLaw
import Derived.LoopTactic
import Derived.OwnWalk
import Derived.Deep.AppendLies
import Derived.RangeFuncNested
import Derived.RangeFuncBound
import Derived.RangeFuncCalls
import Derived.RangeFuncLeaves
import Derived.Shelf.Abstract
import Derived.Shelf.RegionOpen
import Derived.WalkKit
import Derived.OwnWalkIn
import Derived.TacticsInMore
import Derived.LoopNIn
import Derived.LoopIn
import Derived.Sort.KeysCollected
import Derived.Maps.Views
import Derived.Laws.MakeOwn
import Derived.RangeFuncWrites
import Derived.Maps.OwnIn
import Derived.Test.YtilkpjcbmllgmaaGreatDoorPvA
import Derived.Test.YtilkpjcbmllgmaaGreatDoorPvB

namespace Go.Proofs.YtilkpjcbmllgmaaGreatDoor
set_option linter.unusedVariables false
set_option linter.unusedSimpArgs false
open Go.RowKit

theorem closeP_none (r : Rest) : closeP (none, r) = (none, r) := rfl
theorem closeP_yes (f : Tree) {r : Rest} (h : tok r = [41]) : closeP (some f, r) = (some f, nxt r) := by simp [closeP, h]
theorem closeP_no (f : Tree) {r : Rest} (h : ¬ tok r = [41]) : closeP (some f, r) = (none, r) := by simp [closeP, h]

set_option maxRecDepth 100000 in
set_option maxHeartbeats 1000000 in
theorem group_walk (n : Nat) (r : Rest) (heq : POk 98 (pF n 0) (nxt r)) : POk 154 (pF (n + 1) 6) r := by
  intro w b s h
  have hlt := h.lt
  have H := hidIt h
  have HQ := hidIt heq
  have HE0 : Hid (pF (n + 1) 6 r = closeP (pF n 0 (nxt r))) := pF6 n 0 r
  clear heq h
  go_enter Tryz.func154, Tryz.ntmps154
  go_wp2_with fail
  refine (next_at (H.out.alloc _)).mono ?_
  rintro e w1 ⟨rfl, hp1, hg1⟩
  have HP1 := hidIt hp1
  have HG1 : Hid (w.grownBy w1 (some b)) := only_trans (only_alloc (only_refl _ _) _) hg1
  have HK1 := hidIt (own_kept (heap_alloc_new w _) hg1 (by omega))
  have hlt1 := hp1.lt
  clear hp1 hg1
  go_wp2_with fail
  refine (HQ.out w1 b s HP1.out).mono ?_
  rintro e w2 ⟨op, nm, a, k, c, rfl, hf, hp2, hg2⟩
  cases hres : pF n 0 (nxt r) with
  | mk o r1 =>
    rw [hres] at hf hp2
    have HE : Hid (pF (n + 1) 6 r = closeP (o, r1)) := HE0.out.trans (by rw [hres])
    simp only at hf hp2
    have HG2 := hidIt (only_trans HG1.out hg2)
    have HK2 := hidIt (own_kept HK1.out hg2 (by omega))
    have hlt2 := hp2.lt
    have hsz1 := HG1.out.size
    have hsz2 := hg2.size
    have hR1 := lt_of_block HK1.out
    have hR := lt_of_block HK2.out
    obtain ⟨r0, r1', r2⟩ := cell_of3 HK2.out
    obtain ⟨f0, f1, f2⟩ := cells_free HK2.out
    obtain ⟨-, c2⟩ := hp2.cells
    have HP2 := hidIt hp2
    have HF2 := hidIt hf
    clear hf hg2 hres HE0 hp2
    obtain ⟨T, hT⟩ : ∃ T, T = (⟨(tok r1).toArray⟩ : ByteArray) := ⟨_, rfl⟩
    have hTl : T.toList = tok r1 := by rw [hT, Lib.toList_data]
    rw [← hT] at c2
    clear hT
    cases o with
    | none =>
      clear hTl
      have HE1 : Hid (pF (n + 1) 6 r = (none, r1)) := HE.out.trans (closeP_none r1)
      go_wp2_with fail
      refine bodyPost_ret (v := .tuple #[.agg #[.int .i64 op, .string nm, .slice a k c], .bool false]) (by simp [results, Tryz.results154, go_sem, r0, r1', r2, hR]) rfl ?_
      have hgF := only_alloc (set_three w2 w.heap.size (.int .i64 op) (.string nm) (.slice a k c)) (.cells #[.int .i64 op, .string nm, .slice a k c] 24)
      refine ⟨op, nm, a, k, c, by rw [HE1.out]; rfl, fun f hf => ?_, ?_, only_new HG2.out hgF (Nat.le_refl _)⟩
      · rw [HE1.out] at hf; cases hf
      · rw [HE1.out]
        exact HP2.out.kept hgF (fun e => by injection e with e; omega) (fun e => by injection e with e; omega)
    | some f =>
      have HF := hidIt (HF2.out f rfl)
      by_cases ht : tok r1 = [41]
      · have hq : (T.toList == [41]) = true := by rw [hTl, ht]; rfl
        have HE1 : Hid (pF (n + 1) 6 r = (some f, nxt r1)) := HE.out.trans (closeP_yes f ht)
        clear hTl ht
        go_wp2_with fail
        refine (next_at (HP2.out.alloc _)).mono ?_
        rintro e w3 ⟨rfl, hp3, hg3⟩
        have HG3a := hidIt (only_trans (only_alloc (only_refl w2 (some b)) _) hg3)
        have HG3 := hidIt (only_trans HG2.out HG3a.out)
        have HL3 := own_kept (heap_alloc_new w2 _) hg3 (by omega)
        have HK3 := hidIt (own_kept HK2.out HG3a.out (by omega))
        obtain ⟨l0, l1, l2⟩ := cell_of3 HL3
        have hL := lt_of_block HL3
        clear r0 r1' r2 f0 f1 f2 hR
        have hR := lt_of_block HK3.out
        obtain ⟨r0, r1', r2⟩ := cell_of3 HK3.out
        obtain ⟨f0, f1, f2⟩ := cells_free HK3.out
        have HP3 := hidIt hp3
        have HF3 := hidIt (HF.out.over (w1 := w1) HG3a.out hlt1)
        clear hp3 hg3 HL3 c2
        go_wp2_with fail
        refine bodyPost_ret (v := .tuple #[.agg #[.int .i64 op, .string nm, .slice a k c], .bool true]) (by simp [results, Tryz.results154, go_sem, r0, r1', r2, hR]) rfl ?_
        have hgF := set_three w3 w.heap.size (.int .i64 op) (.string nm) (.slice a k c)
        refine ⟨op, nm, a, k, c, by rw [HE1.out]; rfl, fun f' hf => ?_, ?_, only_new HG3.out hgF (Nat.le_refl _)⟩
        · rw [HE1.out] at hf
          obtain rfl : f = f' := Option.some.inj hf
          exact (HF3.out.over (w1 := w1) hgF hR1).mono (fun i _ hi => Nat.le_trans hsz1 hi)
        · rw [HE1.out]
          exact HP3.out.kept hgF (fun e => by injection e with e; omega) (fun e => by injection e with e; omega)
      · have hq : (T.toList == [41]) = false := by rw [hTl]; exact beq_eq_false_iff_ne.2 ht
        have HE1 : Hid (pF (n + 1) 6 r = (none, r1)) := HE.out.trans (closeP_no f ht)
        clear hTl ht
        go_wp2_with fail
        refine bodyPost_ret (v := .tuple #[.agg #[.int .i64 op, .string nm, .slice a k c], .bool false]) (by simp [results, Tryz.results154, go_sem, r0, r1', r2, hR]) rfl ?_
        have hgF := only_alloc (set_three w2 w.heap.size (.int .i64 op) (.string nm) (.slice a k c)) (.cells #[.int .i64 op, .string nm, .slice a k c] 24)
        refine ⟨op, nm, a, k, c, by rw [HE1.out]; rfl, fun f hf => ?_, ?_, only_new HG2.out hgF (Nat.le_refl _)⟩
        · rw [HE1.out] at hf; cases hf
        · rw [HE1.out]
          exact HP2.out.kept hgF (fun e => by injection e with e; omega) (fun e => by injection e with e; omega)

theorem i64_one {n : Int} (h : n = 1 ∨ n = 2 ∨ n = 3) : I64 n := by unfold I64; omega

set_option maxRecDepth 100000 in
set_option maxHeartbeats 2000000 in
theorem prim_walk (n : Nat) (r : Rest) (hgr : tok r = [40] → POk 154 (pF n 6) r) : POk 151 (pF (n + 1) 5) r := by
  intro w b s h
  obtain ⟨c0, c2⟩ := h.cells
  have hlt := h.lt
  have H := hidIt h
  have HGr := hidIt hgr
  obtain ⟨T, hT⟩ : ∃ T, T = (⟨(tok r).toArray⟩ : ByteArray) := ⟨_, rfl⟩
  have hTl : T.toList = tok r := by rw [hT, Lib.toList_data]
  rw [← hT] at c2
  have hT' := hidIt hT
  clear hT hgr h
  by_cases h40 : tok r = [40]
  · have HE : Hid (pF (n + 1) 5 r = pF n 6 r) := by show _ = _; rw [pF5, if_pos h40]
    have hq : (T.toList == [40]) = true := by rw [hTl, h40]; rfl
    have HT40 := hidIt h40
    clear hTl h40
    go_enter Tryz.func151, Tryz.ntmps151
    go_wp2_with fail
    refine (HGr.out HT40.out _ b s ((H.out.alloc _).alloc _)).mono ?_
    rintro e w2 ⟨op, nm, a, k, c, rfl, hf, hp2, hg2⟩
    have HF2 := hidIt hf
    have HP2 := hidIt hp2
    have HG2 : Hid (w.grownBy w2 (some b)) := only_trans (only_alloc (only_alloc (only_refl _ _) _) _) hg2
    have HK2 := hidIt (own_kept (own_kept (heap_alloc_new w _) (only_alloc (only_refl _ (some b)) _) (by omega)) hg2 (by omega))
    have hR := lt_of_block HK2.out
    obtain ⟨r0, r1, r2⟩ := cell_of3 HK2.out
    obtain ⟨f0, f1, f2⟩ := cells_free HK2.out
    clear hf hp2 hg2
    generalize hok : (pF n 6 r).1.isSome = okb at *
    have HOK := hidIt hok
    clear hok
    go_wp2_with fail
    refine bodyPost_ret (v := .tuple #[.agg #[.int .i64 op, .string nm, .slice a k c], .bool okb]) (by simp [results, Tryz.results151, go_sem, r0, r1, r2, hR]) rfl ?_
    have hgF := set_three w2 w.heap.size (.int .i64 op) (.string nm) (.slice a k c)
    refine ⟨op, nm, a, k, c, by rw [HE.out, HOK.out], fun f hf => ?_, ?_, only_new HG2.out hgF (Nat.le_refl _)⟩
    · rw [HE.out] at hf
      exact ((HF2.out f hf).over (w1 := w) hgF (by simp; omega)).mono (fun i _ hi => by simp at hi; omega)
    · rw [HE.out]
      exact HP2.out.kept hgF (fun e => by injection e with e; omega) (fun e => by injection e with e; omega)
  have q40 : (T.toList == [40]) = false := by rw [hTl]; exact beq_eq_false_iff_ne.2 h40
  by_cases h48 : tok r = [48]
  · have HE : Hid (pF (n + 1) 5 r = (some (.node 2 ⟨#[]⟩ []), nxt r)) := by show _ = _; rw [pF5, if_neg h40, if_pos h48]
    have hq : (T.toList == [48]) = true := by rw [hTl, h48]; rfl
    clear hTl h40 h48
    go_enter Tryz.func151, Tryz.ntmps151
    go_wp2_with fail
    refine (next_at ((H.out.alloc _).alloc _)).mono ?_
    rintro e w2 ⟨rfl, hp2, hg2⟩
    have HP2 := hidIt hp2
    have HG2 : Hid (w.grownBy w2 (some b)) := only_trans (only_alloc (only_alloc (only_refl _ _) _) _) hg2
    have HK2 := hidIt (own_kept (own_kept (heap_alloc_new w _) (only_alloc (only_refl _ (some b)) _) (by omega)) hg2 (by omega))
    have HV2 := own_kept (heap_alloc_at (by simp)) hg2 (i := w.heap.size + 1) (by omega)
    have hR := lt_of_block HK2.out
    have hV := lt_of_block HV2
    obtain ⟨r0, r1, r2⟩ := cell_of3 HK2.out
    obtain ⟨f0, f1, f2⟩ := cells_free HK2.out
    obtain ⟨v0, v1, v2⟩ := cell_of3 HV2
    clear hp2 hg2 HV2 c0 c2
    go_wp2_with fail
    refine bodyPost_ret (v := .tuple #[.agg #[.int .i64 2, .string ⟨#[]⟩, .slice none 0 0], .bool true]) (by simp [results, Tryz.results151, go_sem, r0, r1, r2, hR]) rfl ?_
    have hgF := set_three w2 w.heap.size (.int .i64 2) (.string ⟨#[]⟩) (.slice none 0 0)
    refine ⟨2, ⟨#[]⟩, none, 0, 0, by rw [HE.out]; rfl, fun f hf => ?_, ?_, only_new HG2.out hgF (Nat.le_refl _)⟩
    · rw [HE.out] at hf
      obtain rfl := Option.some.inj hf
      exact FormIn.mk (FormsIn.nil none) rfl (i64_one (by omega)) nil_le (Nat.le_refl _) (Nat.zero_le _)
    · rw [HE.out]
      exact HP2.out.kept hgF (fun e => by injection e with e; omega) (fun e => by injection e with e; omega)
  have q48 : (T.toList == [48]) = false := by rw [hTl]; exact beq_eq_false_iff_ne.2 h48
  by_cases h49 : tok r = [49]
  · have HE : Hid (pF (n + 1) 5 r = (some (.node 1 ⟨#[]⟩ []), nxt r)) := by show _ = _; rw [pF5, if_neg h40, if_neg h48, if_pos h49]
    have hq : (T.toList == [49]) = true := by rw [hTl, h49]; rfl
    clear hTl h40 h48 h49
    go_enter Tryz.func151, Tryz.ntmps151
    go_wp2_with fail
    refine (next_at ((H.out.alloc _).alloc _)).mono ?_
    rintro e w2 ⟨rfl, hp2, hg2⟩
    have HP2 := hidIt hp2
    have HG2 : Hid (w.grownBy w2 (some b)) := only_trans (only_alloc (only_alloc (only_refl _ _) _) _) hg2
    have HK2 := hidIt (own_kept (own_kept (heap_alloc_new w _) (only_alloc (only_refl _ (some b)) _) (by omega)) hg2 (by omega))
    have HV2 := own_kept (heap_alloc_at (by simp)) hg2 (i := w.heap.size + 1) (by omega)
    have hR := lt_of_block HK2.out
    have hV := lt_of_block HV2
    obtain ⟨r0, r1, r2⟩ := cell_of3 HK2.out
    obtain ⟨f0, f1, f2⟩ := cells_free HK2.out
    obtain ⟨v0, v1, v2⟩ := cell_of3 HV2
    clear hp2 hg2 HV2 c0 c2
    go_wp2_with fail
    refine bodyPost_ret (v := .tuple #[.agg #[.int .i64 1, .string ⟨#[]⟩, .slice none 0 0], .bool true]) (by simp [results, Tryz.results151, go_sem, r0, r1, r2, hR]) rfl ?_
    have hgF := set_three w2 w.heap.size (.int .i64 1) (.string ⟨#[]⟩) (.slice none 0 0)
    refine ⟨1, ⟨#[]⟩, none, 0, 0, by rw [HE.out]; rfl, fun f hf => ?_, ?_, only_new HG2.out hgF (Nat.le_refl _)⟩
    · rw [HE.out] at hf
      obtain rfl := Option.some.inj hf
      exact FormIn.mk (FormsIn.nil none) rfl (i64_one (by omega)) nil_le (Nat.le_refl _) (Nat.zero_le _)
    · rw [HE.out]
      exact HP2.out.kept hgF (fun e => by injection e with e; omega) (fun e => by injection e with e; omega)
  have q49 : (T.toList == [49]) = false := by rw [hTl]; exact beq_eq_false_iff_ne.2 h49
  have hTs : T.size ≤ maxLen := by
    rw [hT'.out, mk_size]
    have h1 := tok_len r
    have h2 := H.out.len
    unfold maxLen
    omega
  cases hvn : vn T
  · have HE : Hid (pF (n + 1) 5 r = (none, r)) := by show _ = _; rw [pF5, if_neg h40, if_neg h48, if_neg h49, if_neg (by rw [← hT'.out, hvn]; exact Bool.false_ne_true)]
    have HV := hidIt hvn
    clear hTl h40 h48 h49 hvn
    go_enter Tryz.func151, Tryz.ntmps151
    go_wp2_with fail
    refine (validName_any T _ hTs).mono ?_
    rintro e w' ⟨rfl, rfl⟩
    rw [HV.out]
    go_wp2_with fail
    refine bodyPost_ret (v := .tuple #[.agg #[.int .i64 0, .string ⟨#[]⟩, .slice none 0 0], .bool false]) (by simp [results, Tryz.results151, go_sem]) rfl ?_
    have hgF : w.grownBy ((w.alloc (.cells #[.int .i64 0, .string ⟨#[]⟩, .slice none 0 0] 24)).alloc (.cells #[.int .i64 0, .string ⟨#[]⟩, .slice none 0 0] 24)) (some b) := only_alloc (only_alloc (only_refl _ _) _) _
    refine ⟨0, ⟨#[]⟩, none, 0, 0, by rw [HE.out]; rfl, fun f hf => ?_, ?_, hgF⟩
    · rw [HE.out] at hf; cases hf
    · rw [HE.out]
      exact (H.out.alloc _).alloc _
  · have HE : Hid (pF (n + 1) 5 r = (some (.node 3 T []), nxt r)) := by show _ = _; rw [pF5, if_neg h40, if_neg h48, if_neg h49, if_pos (by rw [← hT'.out, hvn]), ← hT'.out]
    have HV := hidIt hvn
    clear hTl h40 h48 h49 hvn
    go_enter Tryz.func151, Tryz.ntmps151
    go_wp2_with fail
    refine (validName_any T _ hTs).mono ?_
    rintro e w' ⟨rfl, rfl⟩
    rw [HV.out]
    go_wp2_with fail
    go_big_region
    go_wp2_with fail
    refine (next_at (((H.out.alloc _).alloc _).go (Below.refl _ _).drew)).mono ?_
    rintro e w2 ⟨rfl, hp2, hg2⟩
    have HP2 := hidIt hp2
    have HG2 : Hid (w.grownBy w2 (some b)) := only_trans (only_drewN (only_alloc (only_alloc (only_refl _ _) _) _) 1) hg2
    have hk0 : ((w.alloc (.cells #[.int .i64 0, .string ⟨#[]⟩, .slice none 0 0] 24)).alloc (.cells #[.int .i64 3, .string T, .slice none 0 0] 24)).drew.heap[w.heap.size]? = some (.cells #[.int .i64 0, .string ⟨#[]⟩, .slice none 0 0] 24 (0, 0)) := (Below.heap_alloc (w.alloc (.cells #[.int .i64 0, .string ⟨#[]⟩, .slice none 0 0] 24)) (.cells #[.int .i64 3, .string T, .slice none 0 0] 24) w.heap.size (by simp)).trans (heap_alloc_new w _)
    have hv0 : ((w.alloc (.cells #[.int .i64 0, .string ⟨#[]⟩, .slice none 0 0] 24)).alloc (.cells #[.int .i64 3, .string T, .slice none 0 0] 24)).drew.heap[w.heap.size + 1]? = some (.cells #[.int .i64 3, .string T, .slice none 0 0] 24 (0, 0)) := heap_alloc_at (by simp)
    have HK2 := hidIt (own_kept hk0 hg2 (by omega))
    have HV2 := own_kept hv0 hg2 (by omega)
    clear hk0 hv0
    have hR := lt_of_block HK2.out
    have hV := lt_of_block HV2
    obtain ⟨r0, r1, r2⟩ := cell_of3 HK2.out
    obtain ⟨f0, f1, f2⟩ := cells_free HK2.out
    obtain ⟨v0, v1, v2⟩ := cell_of3 HV2
    clear hp2 hg2 HV2 c0 c2
    go_wp2_with fail
    refine bodyPost_ret (v := .tuple #[.agg #[.int .i64 3, .string T, .slice none 0 0], .bool true]) (by simp [results, Tryz.results151, go_sem, r0, r1, r2, hR]) rfl ?_
    have hgF := set_three w2 w.heap.size (.int .i64 3) (.string T) (.slice none 0 0)
    refine ⟨3, T, none, 0, 0, by rw [HE.out]; rfl, fun f hf => ?_, ?_, only_new HG2.out hgF (Nat.le_refl _)⟩
    · rw [HE.out] at hf
      obtain rfl := Option.some.inj hf
      exact FormIn.mk (FormsIn.nil none) rfl (i64_one (by omega)) hTs (Nat.le_refl _) (Nat.zero_le _)
    · rw [HE.out]
      exact HP2.out.kept hgF (fun e => by injection e with e; omega) (fun e => by injection e with e; omega)
end Go.Proofs.YtilkpjcbmllgmaaGreatDoor

namespace Go.Proofs.YtilkpjcbmllgmaaGreatDoor
set_option linter.unusedVariables false
set_option linter.unusedSimpArgs false
open Go.RowKit

theorem sn_nat (n : Int) (hn : 1 ≤ n) (hn' : n ≤ 9223372036854775807) (B b : Nat) (zs : List Int) (k : Nat) (w : World) (h : SrcAt w B b zs k) :
    Calls Tryz.prog 24 #[.pointer (some ⟨b, 0, none⟩), .int .i64 n] w fun e w' => ∃ (m k' : Nat), e = .returned (.int .i64 (m : Int)) ∧ (m : Int) < n ∧ SrcAt w' B b zs k' ∧ w.grownBy w' (some b) :=
  (sn_any n hn hn' B b zs k w h).mono fun e w' ⟨z, k', he, ⟨h0, h1⟩, hs, hg⟩ => by
    obtain ⟨m, rfl⟩ : ∃ m : Nat, z = (m : Int) := ⟨z.toNat, by omega⟩
    exact ⟨m, k', he, h1, hs, hg⟩

/-- What the builder leaves. -/
def FPost (n d : Nat) (w : World) (B b : Nat) (zs : List Int) (e : Ending) (w' : World) : Prop :=
  ∃ (t : Tree) (op : Int) (nm : ByteArray) (a : Option Addr) (m c q : Nat), e = .returned (.agg #[.int .i64 op, .string nm, .slice a m c]) ∧ t.all (nodeG n) = true ∧ t.depth ≤ d ∧
    FormIn w' (fun i => w.heap.size ≤ i) (.agg #[.int .i64 op, .string nm, .slice a m c]) t ∧ SrcAt w' B b zs q ∧ w.grownBy w' (some b)

theorem cell_one0 {w : World} {b : Nat} {x : Value} {t : TypeId} (h : w.heap[b]? = some (.cells #[x] t (0, 0))) : w.cell? ⟨b, 0, none⟩ = some x := by simp [World.cell?, h]
theorem only_below {w : World} {b : Nat} {o : Obj} {w' : World} (hg : (w.alloc o).grownBy w' (some b)) : w.grownBy w' (some b) := only_trans (only_alloc (only_refl w _) o) hg

theorem conv_letter (m : Nat) (h : m < 26) (w : World) (z : Int) (hz : z = 97 + (m : Int)) :
    (convert 64 9 (.slice (some ⟨w.heap.size, 0, none⟩) 1 1)).run Tryz.prog (w.alloc (.cells #[.int .u8 z] 5)) = .ok (.string (letter m)) (w.alloc (.cells #[.int .u8 z] 5)) := by
  subst hz
  refine run_convert_bytes_back (P := Tryz.prog) _ 64 9 5 ⟨w.heap.size, 0, none⟩ 1 [UInt8.ofNat (97 + m)] Tryz.underlying64 Tryz.underlying5 Tryz.underlying9 ?_
  intro j hj
  obtain rfl : j = 0 := by simpa using hj
  have h1 : (UInt8.ofNat (97 + m)).toNat = 97 + m := by rw [UInt8.toNat_ofNat']; omega
  have e : (([UInt8.ofNat (97 + m)] : List UInt8)[0].toNat : Int) = 97 + (m : Int) := by show ((UInt8.ofNat (97 + m)).toNat : Int) = _; rw [h1]; omega
  rw [e]
  exact cell_one0 (heap_alloc_new w (.cells #[.int .u8 (97 + (m : Int))] 5))

theorem gen_const (n z : Nat) (hz : z < 2) : (Tree.node (1 + (z : Int)) ⟨#[]⟩ []).all (nodeG n) = true := by
  have : z = 0 ∨ z = 1 := by omega
  rcases this with rfl | rfl <;> rfl
theorem gen_atom (n m : Nat) (hm : m < n) (hn : n ≤ 26) : (Tree.node 3 (letter m) []).all (nodeG n) = true := by
  have h1 := letter_name m (by omega)
  simp only [Tree.all, allL, nodeG, kindB, nameB, Tree.op_node, Tree.name_node, Tree.args_node, Bool.and_eq_true, Bool.or_eq_true, List.any_eq_true, List.mem_range]
  exact ⟨⟨⟨⟨by simp, by simp [h1]⟩, by simp⟩, .inr ⟨m, hm, by simp⟩⟩, trivial⟩

theorem FPost.alloc {n d : Nat} {w w' : World} {B b : Nat} {zs : List Int} {e : Ending} (h : FPost n d w B b zs e w') (o : Obj) : FPost n d w B b zs e (w'.alloc o) := by
  obtain ⟨t, op, nm, a, m, c, q, he, h1, h2, h3, h4, h5⟩ := h
  exact ⟨t, op, nm, a, m, c, q, he, h1, h2, h3.go ((Below.refl _ _).alloc (Nat.le_refl _) o), h4.alloc o, only_alloc h5 o⟩

/-- The row of kinds that the builder draws from. -/
theorem kinds_row (w : World) (j : Nat) (hj : j < 8) : ∃ op : Int, (op = 4 ∨ op = 5 ∨ op = 6 ∨ op = 7 ∨ op = 8) ∧
    (w.alloc (.cells #[.int .i64 4, .int .i64 4, .int .i64 5, .int .i64 5, .int .i64 6, .int .i64 6, .int .i64 7, .int .i64 8] 3)).cell? ⟨w.heap.size, j, none⟩ = some (.int .i64 op) := by
  have key : ∀ (W : World) (j : Nat), j < 8 → W.heap[w.heap.size]? = some (.cells #[.int .i64 4, .int .i64 4, .int .i64 5, .int .i64 5, .int .i64 6, .int .i64 6, .int .i64 7, .int .i64 8] 3 (0, 0)) → ∃ op : Int, (op = 4 ∨ op = 5 ∨ op = 6 ∨ op = 7 ∨ op = 8) ∧ W.cell? ⟨w.heap.size, j, none⟩ = some (.int .i64 op) := by
    intro W j hj hb
    refine ⟨([4, 4, 5, 5, 6, 6, 7, 8] : List Int)[j]'(by simpa using hj), ?_, ?_⟩
    · have : j = 0 ∨ j = 1 ∨ j = 2 ∨ j = 3 ∨ j = 4 ∨ j = 5 ∨ j = 6 ∨ j = 7 := by omega
      rcases this with rfl | rfl | rfl | rfl | rfl | rfl | rfl | rfl <;> simp
    · have : j = 0 ∨ j = 1 ∨ j = 2 ∨ j = 3 ∨ j = 4 ∨ j = 5 ∨ j = 6 ∨ j = 7 := by omega
      rcases this with rfl | rfl | rfl | rfl | rfl | rfl | rfl | rfl <;> simp [World.cell?, hb]
  exact key _ j hj (heap_alloc_new w _)

/-- What a leaf leaves. -/
theorem leaf_post {n d : Nat} {w w2 : World} {B b : Nat} {zs : List Int} {q : Nat} {t : Tree} {op : Int} {nm : ByteArray} (ht : t.all (nodeG n) = true) (ho : t.op = op) (hnm : t.name = nm) (ha : t.args = []) (hop : I64 op) (hs : nm.size ≤ maxLen)
    (hlt : b < w.heap.size) (h : SrcAt w2 B b zs q) (hg : w.grownBy w2 (some b)) :
    FPost n d w B b zs (.returned (.agg #[.int .i64 op, .string nm, .slice none 0 0])) (((w2.setCell ⟨w.heap.size, 0, none⟩ (.int .i64 op)).setCell ⟨w.heap.size, 1, none⟩ (.string nm)).setCell ⟨w.heap.size, 2, none⟩ (.slice none 0 0)) := by
  have hB := h.base
  obtain ⟨o, s, ts⟩ := t
  simp only [Tree.op_node, Tree.name_node, Tree.args_node] at ho hnm ha
  subst ho hnm ha
  have h3 := set_three w2 w.heap.size (.int .i64 o) (.string s) (.slice none 0 0)
  exact ⟨_, o, s, none, 0, 0, q, rfl, ht, by simp [Tree.depth, depthL], FormIn.mk (FormsIn.nil none) rfl hop hs (Nat.le_refl _) (Nat.zero_le _), h.kept h3 (fun g e => by injection e with e; omega), only_new hg h3 (Nat.le_refl _)⟩

/-- The state of the builder's loop: the reader, the formula under way, the result's box. -/
structure FL (w : World) (B b F : Nat) (zs : List Int) (op : Int) (v : Value) (w' : World) : Prop where
  hb : b < w.heap.size
  hF : w.heap.size < F
  src : ∃ q, SrcAt w' B b zs q
  box : w'.heap[F]? = some (.cells #[.int .i64 op, .string ⟨#[]⟩, v] 24 (0, 0))
  res : w'.heap[w.heap.size]? = some (.cells #[.int .i64 0, .string ⟨#[]⟩, .slice none 0 0] 24 (0, 0))
  gr : w.grownBy w' (some b)
section
variable {w w1 w2 : World} {B b F : Nat} {zs : List Int} {op : Int} {v : Value}
theorem FL.other {row : Option Nat} (h : FL w B b F zs op v w1) (hg : w1.grownBy w2 row) (hs : ∃ q, SrcAt w2 B b zs q) (h1 : row ≠ some F) (h2 : row ≠ some w.heap.size) (h3 : w.grownBy w2 (some b)) : FL w B b F zs op v w2 :=
  ⟨h.hb, h.hF, hs, by rw [hg.block F (lt_of_block h.box) (fun e => h1 e.symm)]; exact h.box, by rw [hg.block _ (lt_of_block h.res) (fun e => h2 e.symm)]; exact h.res, h3⟩
theorem FL.go (h : FL w B b F zs op v w1) (hb : Below w1.heap.size w1 w2) : FL w B b F zs op v w2 :=
  h.other (only_of_below hb none) (by obtain ⟨q, hq⟩ := h.src; exact ⟨q, hq.grow (only_of_below hb none)⟩) (by simp) (by simp) (only_trans h.gr (only_of_below hb _))
theorem FL.alloc (h : FL w B b F zs op v w1) (o : Obj) : FL w B b F zs op v (w1.alloc o) := h.go ((Below.refl _ _).alloc (Nat.le_refl _) o)
theorem FL.drew (h : FL w B b F zs op v w1) : FL w B b F zs op v w1.drew := h.go (Below.refl _ _).drew
theorem FL.call {q : Nat} (h : FL w B b F zs op v w1) (hs : SrcAt w2 B b zs q) (hg : w1.grownBy w2 (some b)) : FL w B b F zs op v w2 :=
  h.other hg ⟨q, hs⟩ (fun e => by have := h.hb; have := h.hF; injection e with e; omega) (fun e => by have := h.hb; injection e with e; omega) (only_trans h.gr hg)
theorem FL.append {row : Option Nat} (h : FL w B b F zs op v w1) (hg : w1.grownBy w2 row) (hr : ∀ g, row = some g → F < g) : FL w B b F zs op v w2 := by
  have hF := h.hF
  have hb := h.hb
  refine h.other hg ?_ (fun e => by have := hr F e; omega) (fun e => by have := hr _ e; omega) ?_
  · obtain ⟨q, hq⟩ := h.src
    exact ⟨q, hq.kept hg fun g e => ⟨by have := hr g e; have := hq.base; omega, by have := hr g e; omega⟩⟩
  · cases row with
    | none => exact only_trans h.gr ⟨hg.os, hg.tape, hg.output, hg.size, fun i hi _ => hg.block i hi (by simp)⟩
    | some g => exact only_new h.gr hg (by have := hr g rfl; omega)
theorem FL.store {v' : Value} (h : FL w B b F zs op v w1) : FL w B b F zs op v' (w1.setCell ⟨F, 2, none⟩ v') := by
  have hF := h.hF
  have hb := h.hb
  have hg : w1.grownBy (w1.setCell ⟨F, 2, none⟩ v') (some F) := only_setCell (p := ⟨F, 2, none⟩) (only_refl w1 (some F)) (.inl rfl) v'
  refine ⟨hb, hF, ?_, ?_, by rw [hg.block _ (lt_of_block h.res) (fun e => by injection e with e; omega)]; exact h.res, only_new h.gr hg (by omega)⟩
  · obtain ⟨q, hq⟩ := h.src
    exact ⟨q, hq.kept hg fun g e => by have := hq.base; injection e with e; omega⟩
  · exact setCell_heap_self h.box v'
theorem FL.all (h : FL w B b F zs op v w1) : w1.cell? ⟨F, 2, none⟩ = some v ∧ w1.frozen? ⟨F, 2, none⟩ = false ∧ F < w1.heap.size ∧ Hid (FL w B b F zs op v w1) :=
  ⟨(cell_of3 h.box).2.2, (cells_free h.box).2.2, lt_of_block h.box, h⟩

theorem fl_call {n d : Nat} (ih : ∀ (B b : Nat) (zs : List Int) (k : Nat) (w : World), SrcAt w B b zs k → Calls Tryz.prog 10 #[.pointer (some ⟨b, 0, none⟩), .int .i64 (n : Int), .int .i64 (d : Int)] w (FPost n d w B b zs)) (h : FL w B b F zs op v w1) :
    Calls Tryz.prog 10 #[.pointer (some ⟨b, 0, none⟩), .int .i64 (n : Int), .int .i64 (d : Int)] w1 fun e w2 => ∃ (t : Tree) (o : Int) (s : ByteArray) (a : Option Addr) (m c : Nat), e = .returned (.agg #[.int .i64 o, .string s, .slice a m c]) ∧ (t.all (nodeG n) = true ∧ t.depth ≤ d) ∧
      FormIn w2 (fun i => w1.heap.size ≤ i) (.agg #[.int .i64 o, .string s, .slice a m c]) t ∧ FL w B b F zs op v w2 ∧ w1.grownBy w2 (some b) := by
  obtain ⟨q, hq⟩ := h.src
  refine (ih B b zs q w1 hq).mono ?_
  rintro e w2 ⟨t, o, s, a, m, c, q2, rfl, h1, h2, h3, h4, h5⟩
  exact ⟨t, o, s, a, m, c, rfl, ⟨h1, h2⟩, h3, h.call h4 h5, h5⟩

theorem form_for {u : Value} {t : Tree} {ts : List Tree} {Bo : Nat} (hf : FormIn w2 (fun i => w1.heap.size ≤ i) u t) (ho : OwnF w1 Bo v ts) (hB : Bo ≤ w1.heap.size) (o : Obj) : FormIn (w2.alloc o) (fun k => Bo ≤ k ∧ v.ownBlock ≠ some k) u t :=
  (hf.mono (S' := fun k => Bo ≤ k ∧ v.ownBlock ≠ some k) fun k _ hk => ⟨by omega, fun e => by have := (ho.block k e).2; omega⟩).go ((Below.refl _ _).alloc (Nat.le_refl _) o)
end

/-- The parts of a formula under way. -/
def Parts (n d : Nat) (ts : List Tree) : Prop := ∀ t ∈ ts, t.all (nodeG n) = true ∧ t.depth ≤ d
theorem Parts.snoc {n d : Nat} {ts : List Tree} {t : Tree} (h : Parts n d ts) (ht : t.all (nodeG n) = true ∧ t.depth ≤ d) : Parts n d (ts ++ [t]) := fun x hx => by
  rcases List.mem_append.1 hx with h1 | h1
  · exact h x h1
  · rw [List.mem_singleton.1 h1]; exact ht
theorem Parts.node {n d : Nat} {ts : List Tree} (h : Parts n d ts) {op : Int} (ho : nodeG n (.node op ⟨#[]⟩ ts) = true) : (Tree.node op ⟨#[]⟩ ts).all (nodeG n) = true ∧ (Tree.node op ⟨#[]⟩ ts).depth ≤ d + 1 := by
  have h1 : allL (nodeG n) ts = true := by
    clear ho
    induction ts with
    | nil => rfl
    | cons t ts ih => simp only [allL, (h t (by simp)).1, ih fun x hx => h x (by simp [hx]), Bool.and_self]
  have h2 : depthL ts ≤ d + 1 := by
    clear ho h1
    induction ts with
    | nil => simp [depthL]
    | cons t ts ih =>
      have h3 := (h t (by simp)).2
      have h4 := ih fun x hx => h x (by simp [hx])
      simp only [depthL]
      omega
  simp only [Tree.all, ho, h1, Tree.depth, h2, Bool.and_self, and_self]
theorem node_good {n : Nat} {op : Int} {ts : List Tree} (h : (op = 4 ∧ ts.length = 1) ∨ ((op = 5 ∨ op = 6) ∧ 2 ≤ ts.length ∧ ts.length ≤ 3) ∨ ((op = 7 ∨ op = 8) ∧ ts.length = 2)) : nodeG n (.node op ⟨#[]⟩ ts) = true := by
  have h3 : op ≠ 3 := by omega
  have hk : kindB (.node op ⟨#[]⟩ ts) = true := by
    unfold kindB
    simp only [Tree.op_node, Tree.args_node]
    rcases h with ⟨rfl, h⟩ | ⟨rfl | rfl, h⟩ | ⟨rfl | rfl, h⟩
    · simp [h]
    · simp [h.1, h.2]; omega
    · simp [h.1, h.2]; omega
    · simp [h]
    · simp [h]
  have hn : nameB (.node op ⟨#[]⟩ ts) = true := by
    unfold nameB
    rw [if_neg (show ¬ (Tree.node op ⟨#[]⟩ ts).op = 3 from h3)]
    rfl
  have ha : decide (ts.length ≤ 3) = true := by rw [decide_eq_true_eq]; omega
  have hb : (op != 3) = true := by simpa using h3
  unfold nodeG
  rw [hk, hn]
  show (true && true && decide (ts.length ≤ 3) && (op != 3 || _)) = true
  rw [ha, hb]
  rfl

theorem fl_start {w w1 : World} {B b : Nat} {zs : List Int} {q : Nat} (hb : b < w.heap.size) (hs : SrcAt w1 B b zs q) (hg : w.grownBy w1 (some b)) (hk : w1.heap[w.heap.size]? = some (.cells #[.int .i64 0, .string ⟨#[]⟩, .slice none 0 0] 24 (0, 0))) (hlt : w.heap.size < w1.heap.size) (op : Int) :
    FL w B b (w1.heap.size + 1) zs op (.slice none 0 0) ((w1.alloc (.cells #[.int .i64 4, .int .i64 4, .int .i64 5, .int .i64 5, .int .i64 6, .int .i64 6, .int .i64 7, .int .i64 8] 3)).alloc (.cells #[.int .i64 op, .string ⟨#[]⟩, .slice none 0 0] 24)) := by
  have hb2 : Below w1.heap.size w1 ((w1.alloc (.cells #[.int .i64 4, .int .i64 4, .int .i64 5, .int .i64 5, .int .i64 6, .int .i64 6, .int .i64 7, .int .i64 8] 3)).alloc (.cells #[.int .i64 op, .string ⟨#[]⟩, .slice none 0 0] 24)) := ((Below.refl _ _).alloc (Nat.le_refl _) _).alloc (by simp) _
  exact ⟨hb, by omega, ⟨q, hs.grow (only_of_below hb2 none)⟩, heap_alloc_at (by simp), blk_kept hk hb2, only_trans hg (only_of_below hb2 _)⟩

/-- What is left when the loop has ended. -/
theorem node_post {n d : Nat} {w w1 : World} {B b F : Nat} {zs : List Int} {op : Int} {a : Option Addr} {c : Nat} {ts : List Tree} (h : FL w B b F zs op (.slice a ts.length c) w1) (ho : OwnF w1 (F + 1) (.slice a ts.length c) ts) (hp : Parts n d ts) (hop : I64 op) (hg : nodeG n (.node op ⟨#[]⟩ ts) = true) :
    FPost n (d + 1) w B b zs (.returned (.agg #[.int .i64 op, .string ⟨#[]⟩, .slice a ts.length c])) (((w1.setCell ⟨w.heap.size, 0, none⟩ (.int .i64 op)).setCell ⟨w.heap.size, 1, none⟩ (.string ⟨#[]⟩)).setCell ⟨w.heap.size, 2, none⟩ (.slice a ts.length c)) := by
  have hF := h.hF
  have hb := h.hb
  obtain ⟨q, hq⟩ := h.src
  have hB := hq.base
  have h3 := set_three w1 w.heap.size (.int .i64 op) (.string ⟨#[]⟩) (.slice a ts.length c)
  obtain ⟨a', c', e, hl, hc, hfs⟩ := ho.form
  obtain ⟨rfl, rfl⟩ : a = a' ∧ c = c' := by injection e with e1 e2 e3; exact ⟨e1, e3⟩
  obtain ⟨g1, g2⟩ := hp.node hg
  refine ⟨_, op, ⟨#[]⟩, a, ts.length, c, q, rfl, g1, g2, FormIn.mk (FormsIn.mono (FormsIn.kept hfs (fun i hi hl => h3.block i hl (fun e => by injection e with e; omega))) (fun i _ hi => by omega)) rfl hop nil_le hl hc, hq.kept h3 (fun g e => by injection e with e; omega), only_new h.gr h3 (Nat.le_refl _)⟩

set_option maxRecDepth 100000 in
set_option maxHeartbeats 2000000 in
theorem sform_any (n : Nat) (hn : 1 ≤ n) (hn' : n ≤ 26) : ∀ (d : Nat), d ≤ 10 → ∀ (B b : Nat) (zs : List Int) (k : Nat) (w : World), SrcAt w B b zs k →
    Calls Tryz.prog 10 #[.pointer (some ⟨b, 0, none⟩), .int .i64 (n : Int), .int .i64 (d : Int)] w (FPost n d w B b zs) := by
  intro d
  induction d with
  | zero =>
    intro _ B b zs k w h
    have hlt := h.lt
    have H := hidIt h
    clear h
    go_enter Tryz.func10, Tryz.ntmps10
    go_wp2_with fail
    refine (sn_nat 12 (by omega) (by omega) B b zs k _ (H.out.alloc _)).mono ?_
    rintro e w1 ⟨z, k1, rfl, hz, hs1, hg1⟩
    have HS1 := hidIt hs1
    have HG1 : Hid (w.grownBy w1 (some b)) := only_below hg1
    have HK1 := hidIt (own_kept (heap_alloc_new w _) hg1 (by omega))
    have hR1 := lt_of_block HK1.out
    obtain ⟨r0, r1, r2⟩ := cell_of3 HK1.out
    obtain ⟨f0, f1, f2⟩ := cells_free HK1.out
    clear hs1 hg1
    by_cases hz0 : z = 0
    · subst hz0
      go_wp2_with fail
      refine (sn_nat 2 (by omega) (by omega) B b zs k1 _ HS1.out).mono ?_
      rintro e w2 ⟨m, k2, rfl, hm, hs2, hg2⟩
      have HS2 := hidIt hs2
      have HG2 := hidIt (only_trans HG1.out hg2)
      have HK2 := hidIt (own_kept HK1.out hg2 (by omega))
      clear r0 r1 r2 f0 f1 f2 hR1 hs2 hg2
      have hR2 := lt_of_block HK2.out
      obtain ⟨r0, r1, r2⟩ := cell_of3 HK2.out
      obtain ⟨f0, f1, f2⟩ := cells_free HK2.out
      go_wp2_with fail
      refine bodyPost_ret (v := .agg #[.int .i64 (1 + (m : Int)), .string ⟨#[]⟩, .slice none 0 0]) (by simp [results, Tryz.results10, go_sem, r0, r1, r2, hR2]) rfl ?_
      exact leaf_post (op := 1 + (m : Int)) (nm := ⟨#[]⟩) (gen_const n m (by omega)) rfl rfl rfl (i64_one (by omega)) nil_le hlt HS2.out HG2.out
    · have HA1 := HS1.out
      go_wp2_with fail
      refine (sn_nat (n : Int) (by omega) (by omega) B b zs k1 _ HS1.out).mono ?_
      rintro e w2 ⟨m, k2, rfl, hm, hs2, hg2⟩
      have HS2 := hidIt hs2
      have HG2 := hidIt (only_trans HG1.out hg2)
      have HK2 := hidIt (own_kept HK1.out hg2 (by omega))
      have hcv := conv_letter m (by omega) w2 (97 + (m : Int)) rfl
      clear r0 r1 r2 f0 f1 f2 hR1 hs2 hg2 HA1
      have hR2 := lt_of_block HK2.out
      obtain ⟨r0, r1, r2⟩ := cell_of3 HK2.out
      obtain ⟨f0, f1, f2⟩ := cells_free HK2.out
      go_wp2_with fail
      refine bodyPost_ret (v := .agg #[.int .i64 3, .string (letter m), .slice none 0 0]) (by simp [results, Tryz.results10, go_sem, r0, r1, r2, hR2]) rfl ?_
      exact (leaf_post (op := 3) (nm := letter m) (gen_atom n m (by omega) hn') rfl rfl rfl (i64_one (by omega)) (by rw [letter_size]; unfold maxLen; omega) hlt HS2.out HG2.out).alloc _
  | succ d ih =>
    intro hd B b zs k w h
    have hlt := h.lt
    have H := hidIt h
    clear h
    go_enter Tryz.func10, Tryz.ntmps10
    go_wp2_with fail
    refine (sn_nat 12 (by omega) (by omega) B b zs k _ (H.out.alloc _)).mono ?_
    rintro e w1 ⟨z, k1, rfl, hz, hs1, hg1⟩
    have HS1 := hidIt hs1
    have HG1 : Hid (w.grownBy w1 (some b)) := only_below hg1
    have HK1 := hidIt (own_kept (heap_alloc_new w _) hg1 (by omega))
    have hR1 := lt_of_block HK1.out
    obtain ⟨r0, r1, r2⟩ := cell_of3 HK1.out
    obtain ⟨f0, f1, f2⟩ := cells_free HK1.out
    clear hs1 hg1
    by_cases hz4 : z < 4
    · have hz4' : (z : Int) < 4 := by omega
      by_cases hz0 : z = 0
      · subst hz0
        go_wp2_with fail
        refine (sn_nat 2 (by omega) (by omega) B b zs k1 _ HS1.out).mono ?_
        rintro e w2 ⟨m, k2, rfl, hm, hs2, hg2⟩
        have HS2 := hidIt hs2
        have HG2 := hidIt (only_trans HG1.out hg2)
        have HK2 := hidIt (own_kept HK1.out hg2 (by omega))
        clear r0 r1 r2 f0 f1 f2 hR1 hs2 hg2
        have hR2 := lt_of_block HK2.out
        obtain ⟨r0, r1, r2⟩ := cell_of3 HK2.out
        obtain ⟨f0, f1, f2⟩ := cells_free HK2.out
        go_wp2_with fail
        refine bodyPost_ret (v := .agg #[.int .i64 (1 + (m : Int)), .string ⟨#[]⟩, .slice none 0 0]) (by simp [results, Tryz.results10, go_sem, r0, r1, r2, hR2]) rfl ?_
        exact leaf_post (op := 1 + (m : Int)) (nm := ⟨#[]⟩) (gen_const n m (by omega)) rfl rfl rfl (i64_one (by omega)) nil_le hlt HS2.out HG2.out
      · have HA1 := HS1.out
        go_wp2_with fail
        refine (sn_nat (n : Int) (by omega) (by omega) B b zs k1 _ HS1.out).mono ?_
        rintro e w2 ⟨m, k2, rfl, hm, hs2, hg2⟩
        have HS2 := hidIt hs2
        have HG2 := hidIt (only_trans HG1.out hg2)
        have HK2 := hidIt (own_kept HK1.out hg2 (by omega))
        have hcv := conv_letter m (by omega) w2 (97 + (m : Int)) rfl
        clear r0 r1 r2 f0 f1 f2 hR1 hs2 hg2 HA1
        have hR2 := lt_of_block HK2.out
        obtain ⟨r0, r1, r2⟩ := cell_of3 HK2.out
        obtain ⟨f0, f1, f2⟩ := cells_free HK2.out
        go_wp2_with fail
        refine bodyPost_ret (v := .agg #[.int .i64 3, .string (letter m), .slice none 0 0]) (by simp [results, Tryz.results10, go_sem, r0, r1, r2, hR2]) rfl ?_
        exact (leaf_post (op := 3) (nm := letter m) (gen_atom n m (by omega) hn') rfl rfl rfl (i64_one (by omega)) (by rw [letter_size]; unfold maxLen; omega) hlt HS2.out HG2.out).alloc _
    · obtain ⟨j, rfl⟩ : ∃ j, z = j + 4 := ⟨z - 4, by omega⟩
      obtain ⟨op, hop, hcell⟩ := kinds_row w1 j (by omega)
      have hF0 := hidIt (fl_start hlt HS1.out HG1.out HK1.out hR1 op)
      clear r0 r1 r2 f0 f1 f2 HS1 HG1 HK1
      rcases hop with rfl | rfl | rfl | rfl | rfl
      · go_wp2_with fail
        have hF8 := hF0
        clear hF0 hcell
        go_loopw [10] (fun i wr => ∃ (k : Nat) (ts : List Tree) (a : Option Addr) (c : Nat), k = ts.length ∧ k ≤ 1 ∧ i = .int .i64 k ∧ Hid (FL w B b (w1.heap.size + 1) zs 4 (.slice a ts.length c) wr) ∧ Hid (OwnF wr (w1.heap.size + 1 + 1) (.slice a ts.length c) ts) ∧ Hid (Parts n d ts)) (fun i _ => 1 - (intOf i).toNat)
        case atStart => exact ⟨0, [], none, 0, rfl, by omega, rfl, hF8, OwnF.nil _ _, fun t ht => by cases ht⟩
        case round =>
          clear hF8
          obtain ⟨k, ts, a, c, hk, hk1, rfl, hst, hown, hparts⟩ := hrel
          obtain ⟨x2, y2, hFlt, -⟩ := hst.out.all
          by_cases hlt2 : k < 1
          · go_wp2_with fail
            have HIH := hidIt (ih (by omega))
            have hwd : IntKind.i64.wrap (d : Int) = (d : Int) := IntWalk.i64_in _ (by omega)
            have HO : Hid (OwnF wr.drew (w1.heap.size + 1 + 1) (.slice a ts.length c) ts) := hown.out.go (Below.refl _ _).drew
            go_region_law (first
                | ((refine step_append_form (by rfl) (.tmp 56) (.tmp 62) (by rfl) (w1.heap.size + 1 + 1) (.slice a ts.length c) ts (by rfl) ((HO.out.kept hg2 (fun g e => by injection e with e; omega)).alloc _) _ 1 (by rfl) (heap_alloc_new w2 _) t (form_for hf2 HO.out hFlt _) (by omega) (by have := hcall.all.2.2.1; simp; omega) ?_); intro a5 c5 w5 hown5 hg5; have happ := (hcall.alloc _).append hg5 (fun g e => (HO.out.block g e).1); have x5 := happ.all.1; have y5 := happ.all.2.1; have l5 := happ.all.2.2.1)
                | (go_simp; go_at_call 10; refine (fl_call HIH.out hst.out.drew).mono ?_; rintro e w2 ⟨t, o, s, a2, m2, c2, rfl, hgood, hf2, hcall, hg2⟩; have x3 := hcall.all.1; have l3 := hcall.all.2.2.1))
            all_goals
              have HF5 := hidIt (happ.store (v' := .slice a5 (ts.length + 1) c5))
              have HO5 := hidIt (hown5.kept (only_setCell (p := ⟨w1.heap.size + 1, 2, none⟩) (only_refl w5 (some (w1.heap.size + 1))) (.inl rfl) (.slice a5 (ts.length + 1) c5)) (fun g e => by injection e with e; omega))
              have HP5 := hidIt (hparts.out.snoc hgood)
              clear hf2 hcall hg2 hown5 hg5 happ x3 l3 x5 y5 l5 hgood HO HIH x2 y2 hFlt
              go_wp2_with fail
              go_roundw
              case rel => exact ⟨k + 1, ts ++ [t], a5, c5, by simp; omega, by omega, by go_num, by simpa using HF5, by simpa using HO5, HP5⟩
              case measure => simp [intOf]; omega
          · have hgd := hidIt (node_good (n := n) (op := 4) (ts := ts) (by simp; omega))
            obtain ⟨x0, x1, x2'⟩ := cell_of3 hst.out.box
            obtain ⟨r0, r1, r2⟩ := cell_of3 hst.out.res
            obtain ⟨f0, f1, f2⟩ := cells_free hst.out.res
            have hRl := lt_of_block hst.out.res
            go_wp2_with fail
            refine bodyPost_ret (v := .agg #[.int .i64 4, .string ⟨#[]⟩, .slice a ts.length c]) (by simp [results, Tryz.results10, go_sem, r0, r1, r2, hRl]) rfl ?_
            exact node_post hst.out hown.out hparts.out (i64_small (by omega) (by omega)) hgd.out
      · go_wp2_with fail
        obtain ⟨qq, hqq⟩ := hF0.out.src
        refine (sn_nat 2 (by omega) (by omega) B b zs qq _ hqq).mono ?_
        rintro e w8 ⟨z2, q2, rfl, hz2, hs8, hg8⟩
        have hF8 := hidIt (hF0.out.call hs8 hg8)
        clear hs8 hg8 hqq hF0 hcell
        go_wp2_with fail
        go_loopw [10] (fun i wr => ∃ (k : Nat) (ts : List Tree) (a : Option Addr) (c : Nat), k = ts.length ∧ k ≤ (2 + z2) ∧ i = .int .i64 k ∧ Hid (FL w B b (w1.heap.size + 1) zs 5 (.slice a ts.length c) wr) ∧ Hid (OwnF wr (w1.heap.size + 1 + 1) (.slice a ts.length c) ts) ∧ Hid (Parts n d ts)) (fun i _ => (2 + z2) - (intOf i).toNat)
        case atStart => exact ⟨0, [], none, 0, rfl, by omega, rfl, hF8, OwnF.nil _ _, fun t ht => by cases ht⟩
        case round =>
          clear hF8
          obtain ⟨k, ts, a, c, hk, hk1, rfl, hst, hown, hparts⟩ := hrel
          obtain ⟨x2, y2, hFlt, -⟩ := hst.out.all
          by_cases hlt2 : k < (2 + z2)
          · go_wp2_with fail
            have HIH := hidIt (ih (by omega))
            have hwd : IntKind.i64.wrap (d : Int) = (d : Int) := IntWalk.i64_in _ (by omega)
            have HO : Hid (OwnF wr.drew (w1.heap.size + 1 + 1) (.slice a ts.length c) ts) := hown.out.go (Below.refl _ _).drew
            go_region_law (first
                | ((refine step_append_form (by rfl) (.tmp 56) (.tmp 62) (by rfl) (w1.heap.size + 1 + 1) (.slice a ts.length c) ts (by rfl) ((HO.out.kept hg2 (fun g e => by injection e with e; omega)).alloc _) _ 1 (by rfl) (heap_alloc_new w2 _) t (form_for hf2 HO.out hFlt _) (by omega) (by have := hcall.all.2.2.1; simp; omega) ?_); intro a5 c5 w5 hown5 hg5; have happ := (hcall.alloc _).append hg5 (fun g e => (HO.out.block g e).1); have x5 := happ.all.1; have y5 := happ.all.2.1; have l5 := happ.all.2.2.1)
                | (go_simp; go_at_call 10; refine (fl_call HIH.out hst.out.drew).mono ?_; rintro e w2 ⟨t, o, s, a2, m2, c2, rfl, hgood, hf2, hcall, hg2⟩; have x3 := hcall.all.1; have l3 := hcall.all.2.2.1))
            all_goals
              have HF5 := hidIt (happ.store (v' := .slice a5 (ts.length + 1) c5))
              have HO5 := hidIt (hown5.kept (only_setCell (p := ⟨w1.heap.size + 1, 2, none⟩) (only_refl w5 (some (w1.heap.size + 1))) (.inl rfl) (.slice a5 (ts.length + 1) c5)) (fun g e => by injection e with e; omega))
              have HP5 := hidIt (hparts.out.snoc hgood)
              clear hf2 hcall hg2 hown5 hg5 happ x3 l3 x5 y5 l5 hgood HO HIH x2 y2 hFlt
              go_wp2_with fail
              go_roundw
              case rel => exact ⟨k + 1, ts ++ [t], a5, c5, by simp; omega, by omega, by go_num, by simpa using HF5, by simpa using HO5, HP5⟩
              case measure => simp [intOf]; omega
          · have hgd := hidIt (node_good (n := n) (op := 5) (ts := ts) (by simp; omega))
            obtain ⟨x0, x1, x2'⟩ := cell_of3 hst.out.box
            obtain ⟨r0, r1, r2⟩ := cell_of3 hst.out.res
            obtain ⟨f0, f1, f2⟩ := cells_free hst.out.res
            have hRl := lt_of_block hst.out.res
            go_wp2_with fail
            refine bodyPost_ret (v := .agg #[.int .i64 5, .string ⟨#[]⟩, .slice a ts.length c]) (by simp [results, Tryz.results10, go_sem, r0, r1, r2, hRl]) rfl ?_
            exact node_post hst.out hown.out hparts.out (i64_small (by omega) (by omega)) hgd.out
      · go_wp2_with fail
        obtain ⟨qq, hqq⟩ := hF0.out.src
        refine (sn_nat 2 (by omega) (by omega) B b zs qq _ hqq).mono ?_
        rintro e w8 ⟨z2, q2, rfl, hz2, hs8, hg8⟩
        have hF8 := hidIt (hF0.out.call hs8 hg8)
        clear hs8 hg8 hqq hF0 hcell
        go_wp2_with fail
        go_loopw [10] (fun i wr => ∃ (k : Nat) (ts : List Tree) (a : Option Addr) (c : Nat), k = ts.length ∧ k ≤ (2 + z2) ∧ i = .int .i64 k ∧ Hid (FL w B b (w1.heap.size + 1) zs 6 (.slice a ts.length c) wr) ∧ Hid (OwnF wr (w1.heap.size + 1 + 1) (.slice a ts.length c) ts) ∧ Hid (Parts n d ts)) (fun i _ => (2 + z2) - (intOf i).toNat)
        case atStart => exact ⟨0, [], none, 0, rfl, by omega, rfl, hF8, OwnF.nil _ _, fun t ht => by cases ht⟩
        case round =>
          clear hF8
          obtain ⟨k, ts, a, c, hk, hk1, rfl, hst, hown, hparts⟩ := hrel
          obtain ⟨x2, y2, hFlt, -⟩ := hst.out.all
          by_cases hlt2 : k < (2 + z2)
          · go_wp2_with fail
            have HIH := hidIt (ih (by omega))
            have hwd : IntKind.i64.wrap (d : Int) = (d : Int) := IntWalk.i64_in _ (by omega)
            have HO : Hid (OwnF wr.drew (w1.heap.size + 1 + 1) (.slice a ts.length c) ts) := hown.out.go (Below.refl _ _).drew
            go_region_law (first
                | ((refine step_append_form (by rfl) (.tmp 56) (.tmp 62) (by rfl) (w1.heap.size + 1 + 1) (.slice a ts.length c) ts (by rfl) ((HO.out.kept hg2 (fun g e => by injection e with e; omega)).alloc _) _ 1 (by rfl) (heap_alloc_new w2 _) t (form_for hf2 HO.out hFlt _) (by omega) (by have := hcall.all.2.2.1; simp; omega) ?_); intro a5 c5 w5 hown5 hg5; have happ := (hcall.alloc _).append hg5 (fun g e => (HO.out.block g e).1); have x5 := happ.all.1; have y5 := happ.all.2.1; have l5 := happ.all.2.2.1)
                | (go_simp; go_at_call 10; refine (fl_call HIH.out hst.out.drew).mono ?_; rintro e w2 ⟨t, o, s, a2, m2, c2, rfl, hgood, hf2, hcall, hg2⟩; have x3 := hcall.all.1; have l3 := hcall.all.2.2.1))
            all_goals
              have HF5 := hidIt (happ.store (v' := .slice a5 (ts.length + 1) c5))
              have HO5 := hidIt (hown5.kept (only_setCell (p := ⟨w1.heap.size + 1, 2, none⟩) (only_refl w5 (some (w1.heap.size + 1))) (.inl rfl) (.slice a5 (ts.length + 1) c5)) (fun g e => by injection e with e; omega))
              have HP5 := hidIt (hparts.out.snoc hgood)
              clear hf2 hcall hg2 hown5 hg5 happ x3 l3 x5 y5 l5 hgood HO HIH x2 y2 hFlt
              go_wp2_with fail
              go_roundw
              case rel => exact ⟨k + 1, ts ++ [t], a5, c5, by simp; omega, by omega, by go_num, by simpa using HF5, by simpa using HO5, HP5⟩
              case measure => simp [intOf]; omega
          · have hgd := hidIt (node_good (n := n) (op := 6) (ts := ts) (by simp; omega))
            obtain ⟨x0, x1, x2'⟩ := cell_of3 hst.out.box
            obtain ⟨r0, r1, r2⟩ := cell_of3 hst.out.res
            obtain ⟨f0, f1, f2⟩ := cells_free hst.out.res
            have hRl := lt_of_block hst.out.res
            go_wp2_with fail
            refine bodyPost_ret (v := .agg #[.int .i64 6, .string ⟨#[]⟩, .slice a ts.length c]) (by simp [results, Tryz.results10, go_sem, r0, r1, r2, hRl]) rfl ?_
            exact node_post hst.out hown.out hparts.out (i64_small (by omega) (by omega)) hgd.out
      · go_wp2_with fail
        have hF8 := hF0
        clear hF0 hcell
        go_loopw [10] (fun i wr => ∃ (k : Nat) (ts : List Tree) (a : Option Addr) (c : Nat), k = ts.length ∧ k ≤ 2 ∧ i = .int .i64 k ∧ Hid (FL w B b (w1.heap.size + 1) zs 7 (.slice a ts.length c) wr) ∧ Hid (OwnF wr (w1.heap.size + 1 + 1) (.slice a ts.length c) ts) ∧ Hid (Parts n d ts)) (fun i _ => 2 - (intOf i).toNat)
        case atStart => exact ⟨0, [], none, 0, rfl, by omega, rfl, hF8, OwnF.nil _ _, fun t ht => by cases ht⟩
        case round =>
          clear hF8
          obtain ⟨k, ts, a, c, hk, hk1, rfl, hst, hown, hparts⟩ := hrel
          obtain ⟨x2, y2, hFlt, -⟩ := hst.out.all
          by_cases hlt2 : k < 2
          · go_wp2_with fail
            have HIH := hidIt (ih (by omega))
            have hwd : IntKind.i64.wrap (d : Int) = (d : Int) := IntWalk.i64_in _ (by omega)
            have HO : Hid (OwnF wr.drew (w1.heap.size + 1 + 1) (.slice a ts.length c) ts) := hown.out.go (Below.refl _ _).drew
            go_region_law (first
                | ((refine step_append_form (by rfl) (.tmp 56) (.tmp 62) (by rfl) (w1.heap.size + 1 + 1) (.slice a ts.length c) ts (by rfl) ((HO.out.kept hg2 (fun g e => by injection e with e; omega)).alloc _) _ 1 (by rfl) (heap_alloc_new w2 _) t (form_for hf2 HO.out hFlt _) (by omega) (by have := hcall.all.2.2.1; simp; omega) ?_); intro a5 c5 w5 hown5 hg5; have happ := (hcall.alloc _).append hg5 (fun g e => (HO.out.block g e).1); have x5 := happ.all.1; have y5 := happ.all.2.1; have l5 := happ.all.2.2.1)
                | (go_simp; go_at_call 10; refine (fl_call HIH.out hst.out.drew).mono ?_; rintro e w2 ⟨t, o, s, a2, m2, c2, rfl, hgood, hf2, hcall, hg2⟩; have x3 := hcall.all.1; have l3 := hcall.all.2.2.1))
            all_goals
              have HF5 := hidIt (happ.store (v' := .slice a5 (ts.length + 1) c5))
              have HO5 := hidIt (hown5.kept (only_setCell (p := ⟨w1.heap.size + 1, 2, none⟩) (only_refl w5 (some (w1.heap.size + 1))) (.inl rfl) (.slice a5 (ts.length + 1) c5)) (fun g e => by injection e with e; omega))
              have HP5 := hidIt (hparts.out.snoc hgood)
              clear hf2 hcall hg2 hown5 hg5 happ x3 l3 x5 y5 l5 hgood HO HIH x2 y2 hFlt
              go_wp2_with fail
              go_roundw
              case rel => exact ⟨k + 1, ts ++ [t], a5, c5, by simp; omega, by omega, by go_num, by simpa using HF5, by simpa using HO5, HP5⟩
              case measure => simp [intOf]; omega
          · have hgd := hidIt (node_good (n := n) (op := 7) (ts := ts) (by simp; omega))
            obtain ⟨x0, x1, x2'⟩ := cell_of3 hst.out.box
            obtain ⟨r0, r1, r2⟩ := cell_of3 hst.out.res
            obtain ⟨f0, f1, f2⟩ := cells_free hst.out.res
            have hRl := lt_of_block hst.out.res
            go_wp2_with fail
            refine bodyPost_ret (v := .agg #[.int .i64 7, .string ⟨#[]⟩, .slice a ts.length c]) (by simp [results, Tryz.results10, go_sem, r0, r1, r2, hRl]) rfl ?_
            exact node_post hst.out hown.out hparts.out (i64_small (by omega) (by omega)) hgd.out
      · go_wp2_with fail
        have hF8 := hF0
        clear hF0 hcell
        go_loopw [10] (fun i wr => ∃ (k : Nat) (ts : List Tree) (a : Option Addr) (c : Nat), k = ts.length ∧ k ≤ 2 ∧ i = .int .i64 k ∧ Hid (FL w B b (w1.heap.size + 1) zs 8 (.slice a ts.length c) wr) ∧ Hid (OwnF wr (w1.heap.size + 1 + 1) (.slice a ts.length c) ts) ∧ Hid (Parts n d ts)) (fun i _ => 2 - (intOf i).toNat)
        case atStart => exact ⟨0, [], none, 0, rfl, by omega, rfl, hF8, OwnF.nil _ _, fun t ht => by cases ht⟩
        case round =>
          clear hF8
          obtain ⟨k, ts, a, c, hk, hk1, rfl, hst, hown, hparts⟩ := hrel
          obtain ⟨x2, y2, hFlt, -⟩ := hst.out.all
          by_cases hlt2 : k < 2
          · go_wp2_with fail
            have HIH := hidIt (ih (by omega))
            have hwd : IntKind.i64.wrap (d : Int) = (d : Int) := IntWalk.i64_in _ (by omega)
            have HO : Hid (OwnF wr.drew (w1.heap.size + 1 + 1) (.slice a ts.length c) ts) := hown.out.go (Below.refl _ _).drew
            go_region_law (first
                | ((refine step_append_form (by rfl) (.tmp 56) (.tmp 62) (by rfl) (w1.heap.size + 1 + 1) (.slice a ts.length c) ts (by rfl) ((HO.out.kept hg2 (fun g e => by injection e with e; omega)).alloc _) _ 1 (by rfl) (heap_alloc_new w2 _) t (form_for hf2 HO.out hFlt _) (by omega) (by have := hcall.all.2.2.1; simp; omega) ?_); intro a5 c5 w5 hown5 hg5; have happ := (hcall.alloc _).append hg5 (fun g e => (HO.out.block g e).1); have x5 := happ.all.1; have y5 := happ.all.2.1; have l5 := happ.all.2.2.1)
                | (go_simp; go_at_call 10; refine (fl_call HIH.out hst.out.drew).mono ?_; rintro e w2 ⟨t, o, s, a2, m2, c2, rfl, hgood, hf2, hcall, hg2⟩; have x3 := hcall.all.1; have l3 := hcall.all.2.2.1))
            all_goals
              have HF5 := hidIt (happ.store (v' := .slice a5 (ts.length + 1) c5))
              have HO5 := hidIt (hown5.kept (only_setCell (p := ⟨w1.heap.size + 1, 2, none⟩) (only_refl w5 (some (w1.heap.size + 1))) (.inl rfl) (.slice a5 (ts.length + 1) c5)) (fun g e => by injection e with e; omega))
              have HP5 := hidIt (hparts.out.snoc hgood)
              clear hf2 hcall hg2 hown5 hg5 happ x3 l3 x5 y5 l5 hgood HO HIH x2 y2 hFlt
              go_wp2_with fail
              go_roundw
              case rel => exact ⟨k + 1, ts ++ [t], a5, c5, by simp; omega, by omega, by go_num, by simpa using HF5, by simpa using HO5, HP5⟩
              case measure => simp [intOf]; omega
          · have hgd := hidIt (node_good (n := n) (op := 8) (ts := ts) (by simp; omega))
            obtain ⟨x0, x1, x2'⟩ := cell_of3 hst.out.box
            obtain ⟨r0, r1, r2⟩ := cell_of3 hst.out.res
            obtain ⟨f0, f1, f2⟩ := cells_free hst.out.res
            have hRl := lt_of_block hst.out.res
            go_wp2_with fail
            refine bodyPost_ret (v := .agg #[.int .i64 8, .string ⟨#[]⟩, .slice a ts.length c]) (by simp [results, Tryz.results10, go_sem, r0, r1, r2, hRl]) rfl ?_
            exact node_post hst.out hown.out hparts.out (i64_small (by omega) (by omega)) hgd.out
end Go.Proofs.YtilkpjcbmllgmaaGreatDoor

namespace Go.Proofs.YtilkpjcbmllgmaaGreatDoor
set_option linter.unusedVariables false
set_option linter.unusedSimpArgs false
open Go.RowKit

theorem infoStr : (Tryz.prog.info? 9).map (fun i => (i.zero, i.size, i.bytes)) = some (some (.string ⟨#[]⟩), 1, 16) := by kernel_rfl

/-- The value is a list of strings that the call owns, from block B on. -/
def OwnS (w : World) (B : Nat) (v : Value) (l : List ByteArray) : Prop := w.ownsRow B 9 1 v l.length (l.map Value.string) ∧ ∀ s ∈ l, s.size ≤ maxLen

section
variable {w w' : World} {B : Nat} {v : Value} {l : List ByteArray}
theorem OwnS.block (h : OwnS w B v l) : ∀ g, v.ownBlock = some g → B ≤ g ∧ g < w.heap.size := World.ownsRow.lt h.1
theorem OwnS.nil (w : World) (B : Nat) : OwnS w B (.slice none 0 0) [] := ⟨World.ownsRow_nil w B _ _, fun s h => by cases h⟩
theorem OwnS.kept {row : Option Nat} (h : OwnS w B v l) (hg : w.grownBy w' row) (hr : ∀ g, row = some g → g < B) : OwnS w' B v l := by
  refine ⟨World.ownsRow.kept h.1 hg ?_, h.2⟩
  cases hv : v.ownBlock with
  | none => exact .inl rfl
  | some g =>
    refine .inr (fun e => ?_)
    have h2 := (h.block g hv).1
    have h3 := hr g e.symm
    omega
theorem OwnS.go (h : OwnS w B v l) (hb : Below w.heap.size w w') : OwnS w' B v l := h.kept (only_of_below hb none) (fun g e => by cases e)
theorem OwnS.alloc (h : OwnS w B v l) (o : Obj) : OwnS (w.alloc o) B v l := h.go ((Below.refl _ _).alloc (Nat.le_refl _) o)
theorem OwnS.form (h : OwnS w B v l) : ∃ (a : Option Addr) (c : Nat), v = .slice a l.length c ∧ l.length ≤ c ∧ c ≤ maxLen ∧ StrsIn w (fun k => B ≤ k) a l := by
  rcases h.1.2 with ⟨rfl, h0⟩ | ⟨g, cap, cur, rfl, hB, hg, hnc, hcm, hcs, htake⟩
  · obtain rfl : l = [] := List.eq_nil_of_length_eq_zero h0
    exact ⟨none, 0, rfl, Nat.le_refl _, Nat.zero_le _, StrsIn.nil none⟩
  · refine ⟨_, cap, rfl, hnc, hcm, g, 0, fun _ => ⟨rfl, hB⟩, fun i hi => ⟨?_, h.2 _ (List.getElem_mem hi)⟩⟩
    have := World.ownsRow.cells h.1 (g := g) rfl i (.string l[i]) (by simp [List.getElem?_eq_getElem hi])
    have e : (⟨g, 0, none⟩ : Addr).add i = ⟨g, 0 + i, none⟩ := by unfold Addr.add; split <;> simp_all
    rwa [e] at this
end

/-- append of one string, which lies in a row of its own. -/
theorem wpList_append_str {w : World} {ops : Array Oper} {rest : List Oper} {o : Oper} {a : Act} {Q : Exit → Act → World → Prop} (hgd : o.guard = none) (s x : Operand)
    (ho : o.op = .call { callee := .builtin .append, args := #[s, x], argTypes := #[25, 25] }) (B : Nat) (v : Value) (l : List ByteArray) (hs : a.eval s = v) (hown : OwnS w B v l)
    (m c1 : Nat) (hx : a.eval x = .slice (some ⟨m, 0, none⟩) 1 c1) {t : ByteArray} {ty : TypeId} (hm : w.heap[m]? = some (.cells #[.string t] ty (0, 0))) (ht : t.size ≤ maxLen) (hlen : l.length ≤ 1000000) (hB : B ≤ w.heap.size)
    (h : ∀ v' w', OwnS w' B v' (l ++ [t]) → w.grownBy w' v.ownBlock → wpList Tryz.prog ops Q rest (a.put o.dst v') w') : wpList Tryz.prog ops Q (o :: rest) a w := by
  obtain ⟨i0, hi, hz0, hz1, hz2⟩ := info_parts infoStr
  refine wpList_append_own w hgd s x 25 ho B 9 i0 _ 1 16 Tryz.underlying25 hi hz0 hz1 hz2 rfl (by decide) v l.length _ hs hown.1 ⟨m, 0, none⟩ 1 c1 [.string t] hx rfl ?_ (fun u hu => by rw [List.mem_singleton.1 hu]; rfl) (by unfold maxLen; omega) (by omega) hB (fun v' w' h2 h3 _ => ?_)
  · intro j u hj
    match j, hj with
    | 0, hj =>
      simp only [List.getElem?_cons_zero, Option.some.injEq] at hj
      rw [← hj]
      have e : (⟨m, 0, none⟩ : Addr).add 0 = ⟨m, 0, none⟩ := rfl
      rw [e]
      exact cell_one0 hm
    | j + 1, hj => simp at hj
  · refine h v' w' ⟨?_, fun s hs => ?_⟩ h3
    · rw [List.map_append, List.length_append]
      exact h2
    · rcases List.mem_append.1 hs with h4 | h4
      · exact hown.2 s h4
      · rw [List.mem_singleton.1 h4]; exact ht

/-- The atoms that are true are letters of the first n. -/
def Letters (n : Nat) (l : List ByteArray) : Prop := ∀ s ∈ l, ∃ m, m < n ∧ s = letter m

theorem sA_own {w a a' : World} {b : Nat} {row : Option Nat} (h : w.grownBy a (some b)) (hg : a.grownBy a' row) (hr : ∀ g, row = some g → w.heap.size ≤ g) : w.grownBy a' (some b) :=
  ⟨hg.os.trans h.os, hg.tape.trans h.tape, hg.output.trans h.output, Nat.le_trans h.size hg.size, fun k hk hne => (hg.block k (Nat.lt_of_lt_of_le hk h.size) (fun e => by have := hr k e.symm; omega)).trans (h.block k hk hne)⟩
theorem SrcAt.own {w w' : World} {B b : Nat} {zs : List Int} {k Bo : Nat} {row : Option Nat} (h : SrcAt w B b zs k) (hg : w.grownBy w' row) (hr : ∀ g, row = some g → Bo ≤ g) (hb : b < Bo) : SrcAt w' B b zs k :=
  h.kept hg (fun g e => ⟨by have := hr g e; have := h.base; omega, by have := hr g e; omega⟩)

set_option maxRecDepth 100000 in
set_option maxHeartbeats 2000000 in
theorem yes_any (n : Nat) (hn : n ≤ 26) (B b : Nat) (zs : List Int) (k : Nat) (w : World) (h : SrcAt w B b zs k) :
    Calls Tryz.prog 16 #[.pointer (some ⟨b, 0, none⟩), .int .i64 (n : Int)] w fun e w' => ∃ (v : Value) (l : List ByteArray) (q : Nat), e = .returned v ∧ OwnS w' w.heap.size v l ∧ l.length ≤ n ∧ Letters n l ∧ SrcAt w' B b zs q ∧ w.grownBy w' (some b) := by
  have hlt := h.lt
  have H := hidIt h
  clear h
  go_enter Tryz.func16, Tryz.ntmps16
  go_wp2_with fail
  go_loopw [5, 6] (fun v i wr => ∃ (k q : Nat) (l : List ByteArray), i = .int .i64 k ∧ k ≤ n ∧ l.length ≤ k ∧ Hid (OwnS wr w.heap.size v l) ∧ Hid (Letters n l) ∧ Hid (SrcAt wr B b zs q) ∧ Hid (w.grownBy wr (some b))) (fun _ i _ => n - (intOf i).toNat)
  case atStart => exact ⟨0, k, [], rfl, by omega, by simp, OwnS.nil _ _, (fun s hs => by cases hs), H.out, only_refl _ _⟩
  case round =>
    clear H
    obtain ⟨k, q, l, rfl, hk, hl, hown, hlet, hsrc, hgr⟩ := hrel
    by_cases hlt2 : k < n
    · go_wp2_with fail
      refine (sn_nat 2 (by omega) (by omega) B b zs q _ hsrc.out).mono ?_
      rintro e w2 ⟨m, q2, rfl, hm, hs2, hg2⟩
      have HS2 := hidIt hs2
      have HG2 := hidIt (only_trans hgr.out hg2)
      have HO2 := hidIt (hown.out.kept hg2 (fun g e => by injection e with e; omega))
      have hsz2 : w.heap.size ≤ w2.heap.size := HG2.out.size
      clear hs2 hg2
      by_cases hm1 : m = 1
      · subst hm1
        have hcv := conv_letter k (by omega) w2 (97 + (k : Int)) rfl
        have hbw : w.heap.size ≤ ((w2.alloc (.cells #[.int .u8 (97 + (k : Int))] 5)).alloc (.cells #[.string (letter k)] 9)).heap.size := by simp; omega
        have HNW := hidIt (heap_alloc_at (w := w2.alloc (.cells #[.int .u8 (97 + (k : Int))] 5)) (o := .cells #[.string (letter k)] 9) (n := w2.heap.size + 1) (by simp))
        have HO3 := hidIt ((HO2.out.alloc (.cells #[.int .u8 (97 + (k : Int))] 5)).alloc (.cells #[.string (letter k)] 9))
        have HBW := hidIt hbw
        clear hbw
        go_wp2_with (at_builtin; refine wpList_append_str rfl _ _ rfl w.heap.size _ l rfl HO3.out _ 1 rfl HNW.out (by rw [letter_size]; unfold maxLen; omega) (by omega) HBW.out ?_)
        intro v' w3 ho3 hg3
        have hr0 : ∀ gg, u5.ownBlock = some gg → w.heap.size ≤ gg := fun gg e => (hown.out.block gg e).1
        have HO4 := hidIt ho3
        have HS3 := hidIt (((HS2.out.alloc (.cells #[.int .u8 (97 + (k : Int))] 5)).alloc (.cells #[.string (letter k)] 9)).own hg3 hr0 hlt)
        have HG3 := hidIt (sA_own (only_alloc (only_alloc HG2.out (.cells #[.int .u8 (97 + (k : Int))] 5)) (.cells #[.string (letter k)] 9)) hg3 hr0)
        have HL3 : Hid (Letters n (l ++ [letter k])) := fun s hs => by
          rcases List.mem_append.1 hs with h1 | h1
          · exact hlet.out s h1
          · rw [List.mem_singleton.1 h1]; exact ⟨k, hlt2, rfl⟩
        clear ho3 hg3 hr0 hcv
        go_wp2_with fail
        go_roundw
        case rel => exact ⟨k + 1, q2, l ++ [letter k], by go_num, by omega, by simp; omega, HO4, HL3, HS3, HG3⟩
        case measure => simp [intOf]; omega
      · have hm0 : ((m : Int) == 1) = false := by simp; omega
        go_wp2_with fail
        go_roundw
        case rel => exact ⟨k + 1, q2, l, by go_num, by omega, by omega, HO2, hlet, HS2, HG2⟩
        case measure => simp [intOf]; omega
    · go_wp2_with fail
      go_ret
      exact ⟨_, l, q, rfl, hown.out, by omega, hlet.out, hsrc.out, hgr.out⟩
end Go.Proofs.YtilkpjcbmllgmaaGreatDoor

namespace Go.Proofs.YtilkpjcbmllgmaaGreatDoor
set_option linter.unusedVariables false
set_option linter.unusedSimpArgs false
open Go Go.RowKit

section
variable {P : Program} {ops : Array Oper} {C : World → Prop} {G : World → World → Prop} {R : Tmp → Option (Value → World → Prop)} {E : (Tmp → Prop) → Act → Prop} {o : Oper} {rest : List Oper} {F : Tmp → Prop} {a : Act}
theorem walkR_skip (hw : Region.wanted o (yielded ops a.tmps) = false) (h : walkR P ops C G R E rest F (a.put o.dst undef)) : walkR P ops C G R E (o :: rest) F a :=
  ⟨fun h1 => (by rw [hw] at h1; cases h1), fun _ => h⟩
theorem walkR_plain {t : Tmp} (hw : Region.wanted o (yielded ops a.tmps) = true) (hd : o.dst = some t) (hr : R t = none) {x : Value} (hx : ∀ w, C w → Leans ops R F o a w → plainUpon x w ((execOp a.eval o).run P w)) (h : walkR P ops C G R E rest F (a.put (some t) x)) : walkR P ops C G R E (o :: rest) F a := by
  refine ⟨fun _ => ?_, fun h1 => by rw [hw] at h1; cases h1⟩
  unfold opDo
  simp only [hd, hr]
  exact ⟨x, hx, h⟩
theorem walkR_move {t : Tmp} {x : Operand} (hw : Region.wanted o (yielded ops a.tmps) = true) (hd : o.dst = some t) (ho : o.op = .move x) (hr : R t = none) (h : walkR P ops C G R E rest F (a.put (some t) (a.eval x))) : walkR P ops C G R E (o :: rest) F a :=
  walkR_plain hw hd hr (fun w _ _ => by rw [BigFrame.run_move x ho]; exact ⟨rfl, rfl⟩) h
theorem walkR_assign {t : Tmp} {x : Operand} (hw : Region.wanted o (yielded ops a.tmps) = true) (hd : o.dst = some t) (ho : o.op = .assign x) (hr : R t = none) (h : walkR P ops C G R E rest F (a.put (some t) (a.eval x))) : walkR P ops C G R E (o :: rest) F a :=
  walkR_plain hw hd hr (fun w _ _ => by rw [BigFrame.run_assign x ho]; exact ⟨rfl, rfl⟩) h
theorem walkR_rel {t : Tmp} {r : Value → World → Prop} (hw : Region.wanted o (yielded ops a.tmps) = true) (hd : o.dst = some t) (hr : R t = some r) (ht : t < a.tmps.size) (hx : ∀ w, C w → Leans ops R F o a w → relUpon P C G r w ((execOp a.eval o).run P w))
    (h : ∀ v, (∃ w, C w ∧ r v w) → walkR P ops C G R E rest (more F t) (a.put (some t) v)) : walkR P ops C G R E (o :: rest) F a := by
  refine ⟨fun _ => ?_, fun h1 => by rw [hw] at h1; cases h1⟩
  unfold opDo
  simp only [hd, hr]
  refine ⟨ht, hx, fun v ⟨w, hC, hK⟩ => h v ⟨w, hC, ?_⟩⟩
  have := hK t (.inl rfl) r hr
  rwa [eval_put_self a t v ht] at this
theorem Leans.get {w : World} (h : Leans ops R F o a w) (t : Tmp) (hF : F t) (hc : (o.looksAt ops).contains t = true) {r : Value → World → Prop} (hr : R t = some r) {v : Value} (hv : a.eval (.tmp t) = v) : r v w := by
  subst hv
  exact h t hF (by simpa using hc) r hr
end

/-- The table of relations. -/
def relTab : List (Nat × (Value → World → Prop)) → Tmp → Option (Value → World → Prop)
  | [], _ => none
  | (t, r) :: l, s => match Nat.beq s t with
    | true => some r
    | false => relTab l s

/-- Nothing that lies turns. -/
def Grows (w w' : World) : Prop := Below w.heap.size w w'
def GoesUp (r : Value → World → Prop) : Prop := ∀ v w w', Grows w w' → r v w → r v w'
theorem stable_nil (C : World → Prop) : Stable C Grows (relTab []) := fun s r h => by cases h
theorem stable_cons {C : World → Prop} {t : Nat} {r : Value → World → Prop} {l : List (Nat × (Value → World → Prop))} (hr : GoesUp r) (h : Stable C Grows (relTab l)) : Stable C Grows (relTab ((t, r) :: l)) := by
  intro s r' hs
  unfold relTab at hs
  split at hs
  · injection hs with hs
    subst hs
    exact fun v w w' _ _ hg hv => hr v w w' hg hv
  · exact h s r' hs

def isB (b : Bool) : Value → World → Prop := fun v _ => v = .bool b
def isForm (S : Nat → Prop) (t : Tree) : Value → World → Prop := fun v w => FormIn w S v t
def isForms (S : Nat → Prop) (ts : List Tree) : Value → World → Prop := fun v w => ∃ (a : Option Addr) (c : Nat), v = .slice a ts.length c ∧ ts.length ≤ c ∧ c ≤ maxLen ∧ FormsIn w S a ts
theorem isB_up (b : Bool) : GoesUp (isB b) := fun _ _ _ _ h => h
theorem isForm_up (S : Nat → Prop) (t : Tree) : GoesUp (isForm S t) := fun _ _ _ hg h => FormIn.go h hg
theorem isForms_up (S : Nat → Prop) (ts : List Tree) : GoesUp (isForms S ts) := fun _ _ _ hg ⟨a, c, h1, h2, h3, h4⟩ => ⟨a, c, h1, h2, h3, FormsIn.go h4 hg⟩

theorem Ext.grown {W w w' : World} (h : Ext W w) (hg : Grows w w') : Ext W w' := Below.trans h (Below.mono hg (Below.size h))
theorem Grows.alloc (w : World) (o : Obj) : Grows w (w.alloc o) := (Below.refl _ _).alloc (Nat.le_refl _) o
theorem Ext.form {W w : World} (h : Ext W w) {S : Nat → Prop} {v : Value} {t : Tree} (hf : FormIn W S v t) : FormIn w S v t := FormIn.go hf h

/-- A callee's contract, in the walk. -/
theorem rel_call {P : Program} {f : FuncId} {args : Array Value} {W w : World} {r : Value → World → Prop} (hC : Ext W w) (h : Calls P f args w fun e w' => ∃ u, e = .returned u ∧ r u w' ∧ Below w.heap.size w w') :
    Calls P f args w fun e w'' => ∃ u, e = .returned u ∧ Ext W w'' ∧ Grows w w'' ∧ r u w'' :=
  h.mono fun _ _ ⟨u, he, hr, hb⟩ => ⟨u, he, hC.grown hb, hb, hr⟩

/-- One formula laid in a row. -/
theorem isForms_one {w : World} {S : Nat → Prop} {o : Int} {s : ByteArray} {a : Option Addr} {n c : Nat} {t : Tree} (hS : S w.heap.size) (h : FormIn w S (.agg #[.int .i64 o, .string s, .slice a n c]) t) :
    isForms S [t] (.slice (some ⟨w.heap.size, 0, none⟩) 1 1) (w.alloc (.cells #[.int .i64 o, .string s, .slice a n c] 24)) :=
  ⟨_, 1, rfl, Nat.le_refl _, by unfold maxLen; omega, FormsIn.one (heap_alloc_new w _) hS (h.go (Grows.alloc w _))⟩
theorem isForms_two {w : World} {S : Nat → Prop} {o o' : Int} {s s' : ByteArray} {a a' : Option Addr} {n c n' c' : Nat} {t u : Tree} (hS : S w.heap.size) (h : FormIn w S (.agg #[.int .i64 o, .string s, .slice a n c]) t) (h' : FormIn w S (.agg #[.int .i64 o', .string s', .slice a' n' c']) u) :
    isForms S [t, u] (.slice (some ⟨w.heap.size, 0, none⟩) 2 2) (w.alloc (.cells #[.int .i64 o, .string s, .slice a n c, .int .i64 o', .string s', .slice a' n' c'] 24)) :=
  ⟨_, 2, rfl, Nat.le_refl _, by unfold maxLen; omega, FormsIn.two (heap_alloc_new w _) hS (h.go (Grows.alloc w _)) (h'.go (Grows.alloc w _))⟩
end Go.Proofs.YtilkpjcbmllgmaaGreatDoor

namespace Go.Proofs.YtilkpjcbmllgmaaGreatDoor
set_option linter.unusedVariables false
set_option linter.unusedSimpArgs false
open Go Go.RowKit

set_option maxRecDepth 100000 in
set_option maxHeartbeats 2000000 in
theorem eqFF (fn : Nat) (hcf : ∀ (args : Array Value) (w : World), (callFunc fn args).run Tryz.prog w = .ok (.enter fn args) w) (q : Tree → Tree → Bool) (ts us : List Tree) (a a2 : Option Addr) (cp cp2 : Nat) (w : World) (hlen : ts.length ≤ cp) (hcap : cp ≤ maxLen) (h : FormsAt w none a ts) (h2 : FormsAt w none a2 us)
    (hq : ∀ t ∈ ts, ∀ (u : Tree) (v x : Value) (w' : World), Below w.heap.size w w' → FormAt w' none v t → FormAt w' none x u → Calls Tryz.prog fn #[v, x] w' fun e w2 => e = .returned (.bool (q t u)) ∧ Below w'.heap.size w' w2) :
    Calls Tryz.prog 58 #[.slice a ts.length cp, .slice a2 us.length cp2, .func (.func fn) #[] #[]] w fun e w' => ∃ r : Bool, e = .returned (.bool r) ∧ (r = true ↔ ts.length = us.length ∧ ∀ j (h : j < ts.length) (h' : j < us.length), q ts[j] us[j] = true) ∧ Below w.heap.size w w' := by
  have HV := hidIt h
  have HU := hidIt h2
  have HQ := hidIt hq
  unfold maxLen at hcap
  clear h h2 hq
  by_cases hl : ts.length = us.length
  case neg =>
    have e0 : ((ts.length : Int) != (us.length : Int)) = true := by rw [bne_iff_ne]; omega
    go_enter Tryz.func58, Tryz.ntmps58
    go_wp2_with fail
    go_ret
    exact ⟨false, rfl, ⟨fun h => (by cases h), fun h => absurd h.1 hl⟩, Below.refl _ _⟩
  case pos =>
  have HL := hidIt hl.symm
  rw [show (Value.slice a2 us.length cp2) = .slice a2 ts.length cp2 by rw [hl]]
  clear hl
  go_enter Tryz.func58, Tryz.ntmps58
  go_wp2_with fail
  go_loopw [17] (fun i wr => ∃ k : Nat, k ≤ ts.length ∧ i = .int .i64 k ∧ Hid (∀ j (h : j < ts.length) (h' : j < us.length), j < k → q ts[j] us[j] = true) ∧ Hid (Below w.heap.size w wr)) (fun i _ => ts.length - (intOf i).toNat)
  case atStart => exact ⟨0, Nat.zero_le _, rfl, fun j _ _ h => by omega, Below.refl _ _⟩
  case round =>
    obtain ⟨k, hk, rfl, hall, hbel⟩ := hrel
    by_cases hlt : k < ts.length
    · obtain ⟨b', off', a', c', rfl, c0, c1, c2, hf⟩ := (HV.out.go hbel.out).at k hlt
      obtain ⟨b2', off2', a2', c2', rfl, d0, d1, d2, hg⟩ := (HU.out.go hbel.out).at k (by rw [HL.out]; exact hlt)
      have hm : ts[k] ∈ ts := List.getElem_mem hlt
      have HST : Hid (q ts[k] (us[k]'(by rw [HL.out]; exact hlt)) = true → ∀ j (h : j < ts.length) (h' : j < us.length), j < k + 1 → q ts[j] us[j] = true) := fun e j h h' hj => by
        by_cases ej : j = k
        · subst ej; exact e
        · exact hall.out j h h' (by omega)
      have HNE : Hid (q ts[k] (us[k]'(by rw [HL.out]; exact hlt)) = false → ¬ (ts.length = us.length ∧ ∀ j (h : j < ts.length) (h' : j < us.length), q ts[j] us[j] = true)) := fun e h => by
        rw [h.2 k hlt (by rw [HL.out]; exact hlt)] at e
        cases e
      have hgr : Below wr.heap.size wr ((wr.alloc (.cells #[.int .i64 ts[k].op, .string ts[k].name, .slice a' ts[k].args.length c'] 24)).alloc (.cells #[.int .i64 (us[k]'(by rw [HL.out]; exact hlt)).op, .string (us[k]'(by rw [HL.out]; exact hlt)).name, .slice a2' (us[k]'(by rw [HL.out]; exact hlt)).args.length c2'] 24)) := (Grows.alloc _ _).trans (Below.mono (Grows.alloc _ _) (by simp))
      have HB1 := hidIt (hbel.out.trans (Below.mono hgr hbel.out.size))
      have HF := hidIt (FormAt.go hf hgr)
      have HG := hidIt (FormAt.go hg hgr)
      have hlt0 : (k : Int) < (ts.length : Int) := by omega
      have hk0 : (0 : Int) ≤ (k : Int) := by omega
      clear hf hg hall hgr
      generalize ts[k] = t at *
      generalize (us[k]'(by rw [HL.out]; exact hlt)) = u at *
      obtain ⟨r, hr⟩ : ∃ r, q t u = r := ⟨_, rfl⟩
      have HC := hidIt (HQ.out t hm u)
      rw [hr] at HC HST HNE
      clear hr
      have d0' : (wr.alloc (.cells #[.int .i64 t.op, .string t.name, .slice a' t.args.length c'] 24)).cell? ⟨b2', off2' + k * 3, none⟩ = some (.int .i64 u.op) := Ext.cell d0 ⟨_, Grows.alloc wr _⟩
      have d1' : (wr.alloc (.cells #[.int .i64 t.op, .string t.name, .slice a' t.args.length c'] 24)).cell? ⟨b2', off2' + k * 3 + 1, none⟩ = some (.string u.name) := Ext.cell d1 ⟨_, Grows.alloc wr _⟩
      have d2' : (wr.alloc (.cells #[.int .i64 t.op, .string t.name, .slice a' t.args.length c'] 24)).cell? ⟨b2', off2' + k * 3 + 2, none⟩ = some (.slice a2' u.args.length c2') := Ext.cell d2 ⟨_, Grows.alloc wr _⟩
      go_wp2_with fail
      refine (HC.out _ _ _ HB1.out HF.out HG.out).mono ?_
      rintro e w5 ⟨rfl, h5⟩
      have HB5 : Hid (Below w.heap.size w w5) := HB1.out.trans (Below.mono h5 HB1.out.size)
      clear h5 c0 c1 c2 d0 d1 d2 d0' d1' d2'
      cases r
      · go_wp2_with fail
        go_ret
        exact ⟨false, rfl, ⟨fun h => (by cases h), fun h => absurd h (HNE.out trivial)⟩, HB5.out⟩
      · go_wp2_with fail
        go_roundw
        case rel => exact ⟨k + 1, by omega, by go_num, HST.out trivial, HB5⟩
        case measure => simp [intOf]; omega
    · obtain rfl : k = ts.length := by omega
      go_wp2_with fail
      go_ret
      exact ⟨true, rfl, ⟨fun _ => ⟨HL.out.symm, fun j h h' => hall.out j h h' h⟩, fun _ => rfl⟩, hbel.out⟩

set_option maxRecDepth 100000 in
set_option maxHeartbeats 2000000 in
theorem fsameP_any : ∀ (t u : Tree) (v x : Value) (w : World), FormAt w none v t → FormAt w none x u →
    Calls Tryz.prog 17 #[v, x] w fun e w' => e = .returned (.bool (sameP t u)) ∧ Below w.heap.size w w' := by
  refine Tree.ind fun op name ts ih u v x w hv hu => ?_
  obtain ⟨op2, name2, us⟩ := u
  obtain ⟨a, cap, b, off, rfl, hop, hname, hlen, hcap, -, -⟩ := hv.form
  obtain ⟨a2, cap2, b2, off2, rfl, -, -, hlen2, hcap2, -, -⟩ := hu.form
  have HV := hidIt hv.forms
  have HU := hidIt hu.forms
  simp only [Tree.op_node, Tree.name_node, Tree.args_node] at *
  have IH := hidIt ih
  have HLEN := hidIt hlen
  have HCAP := hidIt hcap
  unfold maxLen at hcap hcap2
  clear ih hv hu
  have HB0 : Hid (Below w.heap.size w ((w.alloc (.cells #[.int .i64 op, .string name, .slice a ts.length cap] 24)).alloc (.cells #[.int .i64 op2, .string name2, .slice a2 us.length cap2] 24))) := ((Below.refl _ _).alloc (Nat.le_refl _) _).alloc (by simp) _
  by_cases ho : op = op2
  case neg =>
    have HS : Hid (sameP (.node op name ts) (.node op2 name2 us) = false) := sameP_false (fun e => ho (by injection e))
    have ho' : (op == op2) = false := beq_eq_false_iff_ne.2 ho
    go_enter Tryz.func17, Tryz.ntmps17
    go_wp2_with fail
    go_ret
    exact ⟨ret_bl HS.out.symm, HB0.out⟩
  case pos =>
  subst ho
  by_cases hn : name = name2
  case neg =>
    have e0 : (name.toList == name2.toList) = false := by
      rw [beq_eq_false_iff_ne]
      intro e
      rw [Lib.toList_data, Lib.toList_data] at e
      exact hn (ByteArray.ext (Array.toList_inj.1 e))
    have HS : Hid (sameP (.node op name ts) (.node op name2 us) = false) := sameP_false (fun e => hn (by injection e))
    clear hn
    go_enter Tryz.func17, Tryz.ntmps17
    go_wp2_with fail
    go_ret
    exact ⟨ret_bl HS.out.symm, HB0.out⟩
  case pos =>
  subst hn
  have hnm : (name.toList == name.toList) = true := beq_self_eq_true _
  have hcf : ∀ (args : Array Value) (w : World), (callFunc 17 args).run Tryz.prog w = .ok (.enter 17 args) w := fun args w => by kernel_rfl
  have HQ := hidIt (eqFF 17 hcf sameP ts us a a2 cap cap2 _ HLEN.out HCAP.out (FormsIn.go HV.out HB0.out) (FormsIn.go HU.out HB0.out) (fun t ht u v x w' _ h1 h2 => IH.out t ht u v x w' h1 h2))
  go_enter Tryz.func17, Tryz.ntmps17
  go_wp2_with fail
  refine HQ.out.mono ?_
  rintro e w5 ⟨r, rfl, hr, h5⟩
  have HB5 : Hid (Below w.heap.size w w5) := HB0.out.trans (Below.mono h5 HB0.out.size)
  have HS : Hid (r = sameP (.node op name ts) (.node op name us)) := by
    show _ = _
    rw [Bool.eq_iff_iff, hr]
    constructor
    · rintro ⟨e1, e2⟩
      have : ts = us := List.ext_getElem e1 fun j h h' => sameP_eq (e2 j h h')
      rw [this]
      exact sameP_true rfl
    · intro e
      have h1 := sameP_eq e
      injection h1 with _ _ h1
      subst h1
      exact ⟨rfl, fun j h h' => sameP_true rfl⟩
  clear h5 hr HQ
  go_wp2_with fail
  go_ret
  exact ⟨ret_bl HS.out, HB5.out⟩
end Go.Proofs.YtilkpjcbmllgmaaGreatDoor

namespace Go.Proofs.YtilkpjcbmllgmaaGreatDoor
set_option linter.unusedVariables false
set_option linter.unusedSimpArgs false
open Go.RowKit

/-- A list of formulas in a row that the call owns, from block B on; the formulas lie in blocks of S. -/
def OwnG (w : World) (B : Nat) (S : Nat → Prop) (v : Value) (ts : List Tree) : Prop :=
  ∃ hs : List (Option Addr × Nat), hs.length = ts.length ∧ w.ownsRow B 24 3 v ts.length (flatF (hds ts hs)) ∧
    ∀ i (h : i < ts.length) (h' : i < hs.length), FormIn w S (ts[i].hd hs[i].1 hs[i].2).val ts[i]
theorem OwnG.go {w w' : World} {B : Nat} {S : Nat → Prop} {v : Value} {ts : List Tree} (h : OwnG w B S v ts) (hb : Below w.heap.size w w') : OwnG w' B S v ts := by
  obtain ⟨hs, h1, h2, h3⟩ := h
  exact ⟨hs, h1, World.ownsRow.kept h2 (only_of_below hb none) (by
    cases hv : v.ownBlock with
    | none => exact .inl rfl
    | some g => exact .inr (fun e => by cases e)), fun i hi hi' => (h3 i hi hi').go hb⟩

theorem OwnG.val {w : World} {B : Nat} {S : Nat → Prop} {v : Value} {ts : List Tree} (h : OwnG w B S v ts) : ∃ (a : Option Addr) (c : Nat), v = .slice a ts.length c := by
  obtain ⟨hs, h1, ho, -⟩ := h
  rcases ho.2 with ⟨rfl, e⟩ | ⟨g, cap, cur, rfl, -⟩
  · exact ⟨none, 0, by rw [e]⟩
  · exact ⟨_, _, rfl⟩
/-- The headers of a row. -/
theorem FormsIn.hs {w : World} {S : Nat → Prop} {a : Option Addr} {ts : List Tree} (h : FormsIn w S a ts) (h0 : 0 < ts.length) :
    ∃ (b off : Nat) (hs : List (Option Addr × Nat)), a = some ⟨b, off, none⟩ ∧ hs.length = ts.length ∧ (∀ j u, (flatF (hds ts hs))[j]? = some u → w.cell? ⟨b, off + j, none⟩ = some u) ∧
      ∀ i (h : i < ts.length) (h' : i < hs.length), FormIn w S (ts[i].hd hs[i].1 hs[i].2).val ts[i] := by
  obtain ⟨b, off, ha, hc⟩ := h
  have key : ∃ hs : List (Option Addr × Nat), hs.length = ts.length ∧ ∀ i (h : i < ts.length) (h' : i < hs.length), w.cell? ⟨b, off + i * 3, none⟩ = some (.int .i64 ts[i].op) ∧ w.cell? ⟨b, off + i * 3 + 1, none⟩ = some (.string ts[i].name) ∧ w.cell? ⟨b, off + i * 3 + 2, none⟩ = some (.slice hs[i].1 ts[i].args.length hs[i].2) ∧ FormIn w S (ts[i].hd hs[i].1 hs[i].2).val ts[i] := by
    refine ⟨List.ofFn fun i : Fin ts.length => ((hc i.val i.isLt).choose, (hc i.val i.isLt).choose_spec.choose), by simp, fun i hi hi' => ?_⟩
    simp only [List.getElem_ofFn]
    exact (hc i hi).choose_spec.choose_spec
  obtain ⟨hs, h1, h2⟩ := key
  refine ⟨b, off, hs, (ha h0).1, h1, fun j u hj => ?_, fun i hi hi' => (h2 i hi hi').2.2.2⟩
  have hlen : (hds ts hs).length = ts.length := by simp [hds, h1]
  have hjl : j < (flatF (hds ts hs)).length := by
    rcases Nat.lt_or_ge j (flatF (hds ts hs)).length with h | h
    · exact h
    · rw [List.getElem?_eq_none h] at hj; cases hj
  rw [flatF_len, hlen] at hjl
  have hi : j / 3 < ts.length := by omega
  have hz : j / 3 < (hds ts hs).length := by omega
  have e : j / 3 * 3 + j % 3 = j := by omega
  have hg := flatF_get (hds ts hs) (j / 3) (j % 3) hz (by omega)
  rw [e, hj] at hg
  obtain ⟨c0, c1, c2, -⟩ := h2 (j / 3) hi (by omega)
  have e2 : off + j = off + j / 3 * 3 + j % 3 := by omega
  rw [e2]
  have hgz : (hds ts hs)[j / 3] = ts[j / 3].hd (hs[j / 3]'(by omega)).1 (hs[j / 3]'(by omega)).2 := by simp [hds]
  rw [hgz] at hg
  have h3 : j % 3 = 0 ∨ j % 3 = 1 ∨ j % 3 = 2 := by omega
  rcases h3 with h3 | h3 | h3
  · rw [h3] at hg ⊢
    simp [Hd.cells, Tree.hd] at hg
    rw [hg]; exact c0
  · rw [h3] at hg ⊢
    simp [Hd.cells, Tree.hd] at hg
    rw [hg]; exact c1
  · rw [h3] at hg ⊢
    simp [Hd.cells, Tree.hd] at hg
    rw [hg]; exact c2

theorem run_append_forms {w : World} (ty : TypeId) (B nb : Nat) (hnb : B ≤ nb) (hB : B ≤ w.heap.size) (hblk : w.heap[nb]? = some (.cells #[] 24 (0, 0))) {S : Nat → Prop} {a : Option Addr} {cap : Nat} {ts : List Tree} (hf : FormsIn w S a ts) (h0 : 0 < ts.length) (hlen : ts.length ≤ 1000000) :
    ∃ v' w', (Builtin.append_ #[22, 22] ty #[.slice (some ⟨nb, 0, none⟩) 0 0, .slice a ts.length cap]).run Tryz.prog w = .ok v' w' ∧ OwnG w' B S v' ts ∧ Below w.heap.size w w' := by
  obtain ⟨i0, hi, hz0, hz1, hz2⟩ := info_parts infoF
  obtain ⟨b, off, hs, rfl, h1, hcells, hform⟩ := hf.hs h0
  have hadd : ∀ j, (⟨b, off, none⟩ : Addr).add j = ⟨b, off + j, none⟩ := fun j => by unfold Addr.add; split <;> simp_all
  have hl : (flatF (hds ts hs)).length = ts.length * i0.size := by
    rw [flatF_len, hz1]
    simp [hds, h1]
  have hnews : ∀ j u, (flatF (hds ts hs))[j]? = some u → w.cell? ((⟨b, off, none⟩ : Addr).add j) = some u := fun j u hj => by rw [hadd]; exact hcells j u hj
  have hown : w.ownsRow B 24 i0.size (.slice (some ⟨nb, 0, none⟩) 0 0) 0 [] := ⟨by simp, .inr ⟨nb, 0, #[], rfl, hnb, hblk, Nat.le_refl _, Nat.zero_le _, by simp, by simp⟩⟩
  obtain ⟨v', w', hr, h2, -, -⟩ := run_append_own (P := Tryz.prog) w B 22 ty 24 i0 _ i0.size 48 Tryz.underlying22 hi hz0 rfl hz2 (by rw [hz1]; rfl) (by rw [hz1]; decide) _ 0 [] hown ⟨b, off, none⟩ ts.length cap _ hl hnews (flatF_one _) (by unfold maxLen; omega) (by omega) hB
  have hx := run_append_grow (P := Tryz.prog) w 22 ty 24 i0 _ Tryz.underlying22 hi hz0 ⟨nb, 0, none⟩ 0 0 [] (by simp) (by intro j v h; simp at h) ⟨b, off, none⟩ ts.length cap _ hl hnews (by omega) (by omega) (growslice_fits (by omega) (by rw [hz2]; omega))
  have hbel : Below w.heap.size w w' := by
    rw [hx] at hr
    injection hr with _ hr
    rw [← hr]
    exact ⟨rfl, rfl, rfl, by simp, fun k hk => heap_alloc_old w.drew _ hk⟩
  rw [hz1] at h2
  simp only [Nat.zero_add, List.nil_append] at h2
  exact ⟨v', w', hr, ⟨hs, h1, h2, fun i hi hi' => (hform i hi hi').go hbel⟩, hbel⟩

theorem run_append_nothing {w : World} (ty : TypeId) (nb : Nat) (a : Option Addr) (cap : Nat) :
    (Builtin.append_ #[22, 22] ty #[.slice (some ⟨nb, 0, none⟩) 0 0, .slice a 0 cap]).run Tryz.prog w = .ok (.slice (some ⟨nb, 0, none⟩) 0 0) w := by
  obtain ⟨i0, hi, hz0, hz1, hz2⟩ := info_parts infoF
  cases a <;> simp [Builtin.append_, run_underlying Tryz.underlying22, sizeOf, typeInfo, hi, Builtin.lenOf, Builtin.firstCells, loadCells, loadCellsFrom, storeCells]

/-- The same, whatever the list's length. -/
theorem run_append_all {w : World} (ty : TypeId) (B nb : Nat) (hnb : B ≤ nb) (hB : B ≤ w.heap.size) (hblk : w.heap[nb]? = some (.cells #[] 24 (0, 0))) {S : Nat → Prop} {a : Option Addr} {cap : Nat} {ts : List Tree} (hf : FormsIn w S a ts) (hlen : ts.length ≤ 1000000) :
    ∃ v' w', (Builtin.append_ #[22, 22] ty #[.slice (some ⟨nb, 0, none⟩) 0 0, .slice a ts.length cap]).run Tryz.prog w = .ok v' w' ∧ OwnG w' B S v' ts ∧ Below w.heap.size w w' := by
  by_cases h0 : 0 < ts.length
  · exact run_append_forms ty B nb hnb hB hblk hf h0 hlen
  · obtain rfl : ts = [] := List.eq_nil_of_length_eq_zero (by omega)
    exact ⟨_, _, run_append_nothing ty nb a cap, ⟨[], rfl, ⟨by simp [hds, flatF], .inr ⟨nb, 0, #[], rfl, hnb, hblk, Nat.le_refl _, Nat.zero_le _, by simp, by simp [hds, flatF]⟩⟩, fun i h => by simp at h⟩, Below.refl _ _⟩

/-- At a step of a region that draws its order. -/
theorem step_append_all {w : World} {ops : Array Oper} {o : Oper} {a : Act} {K : Act → World → Prop} {Q : Exit → Act → World → Prop} {E : Prop} (hgd : o.guard = none) (s x : Operand)
    (ho : o.op = .call { callee := .builtin .append, args := #[s, x], argTypes := #[22, 22] }) (B nb : Nat) (hs : a.eval s = .slice (some ⟨nb, 0, none⟩) 0 0) (hnb : B ≤ nb) (hB : B ≤ w.heap.size) (hblk : w.heap[nb]? = some (.cells #[] 24 (0, 0)))
    {S : Nat → Prop} {ad : Option Addr} {cap : Nat} {ts : List Tree} (hx : a.eval x = .slice ad ts.length cap) (hf : FormsIn w S ad ts) (hlen : ts.length ≤ 1000000)
    (h : ∀ v' w', OwnG w' B S v' ts → Below w.heap.size w w' → K (a.put o.dst v') w') :
    if Region.wanted o (yielded ops a.tmps) = true then Oper.wp Tryz.prog o a w K Q else E := by
  have hw : Region.wanted o (yielded ops a.tmps) = true := by simp [Region.wanted, hgd]
  rw [if_pos hw]
  obtain ⟨v', w', hr, h1, h2⟩ := run_append_all (w := w) o.type B nb hnb hB hblk (cap := cap) hf hlen
  unfold Oper.wp execOp
  simp only [ho, resolve, invoke, builtin, Sem.run_bind, Sem.run_pure, Result.andThen_ok, List.map_toArray, List.map_cons, List.map_nil, hs, hx, hr]
  exact h v' w' h1 h2
end Go.Proofs.YtilkpjcbmllgmaaGreatDoor

namespace Go.Proofs.YtilkpjcbmllgmaaGreatDoor
set_option linter.unusedVariables false
set_option linter.unusedSimpArgs false
open Go Go.RowKit Go.Shelf

attribute [local go_sem] Oper.semAt_some

/-- A formula's header that a round is handed. -/
structure Nd where
  op : Int
  name : ByteArray
  a : Option Addr
  n : Nat
  c : Nat
  hop : I64 op
  hname : name.size ≤ maxLen
  hn : n ≤ c
  hc : c ≤ maxLen
def Nd.val (x : Nd) : Value := .agg #[.int .i64 x.op, .string x.name, .slice x.a x.n x.c]
def Nd.key (x : Nd) : Int × ByteArray × Nat := (x.op, x.name, x.n)

mutual
/-- A formula's nodes, in order. -/
def keysT : Tree → List (Int × ByteArray × Nat)
  | .node op name ts => (op, name, ts.length) :: keysL ts
def keysL : List Tree → List (Int × ByteArray × Nat)
  | [] => []
  | t :: ts => keysT t ++ keysL ts
end

theorem keysL_append : ∀ (l m : List Tree), keysL (l ++ m) = keysL l ++ keysL m
  | [], m => by simp [keysL]
  | t :: l, m => by simp only [List.cons_append, keysL, keysL_append l m, List.append_assoc]
theorem keysL_take (l : List Tree) (k : Nat) (h : k < l.length) : keysL (l.take (k + 1)) = keysL (l.take k) ++ keysT l[k] := by
  rw [take_snoc' l k h, keysL_append]
  simp [keysL]
theorem keysT_len : ∀ t : Tree, (keysT t).length = t.nodes := Tree.ind fun op name ts ih => by
  have : ∀ l : List Tree, (∀ t ∈ l, (keysT t).length = t.nodes) → (keysL l).length = nodesL l := by
    intro l
    induction l with
    | nil => intro _; simp [keysL, nodesL]
    | cons t l ih2 =>
      intro h
      simp only [keysL, nodesL, List.length_append, h t (by simp), ih2 fun x hx => h x (by simp [hx])]
  simp only [keysT, Tree.nodes, List.length_cons, this ts ih]
  omega

theorem room_of_wide (k : Nat) : Fence.wide.room k := fun d h => by cases h
theorem roundIn_any {m m' : Nat} {P : Program} {l : Nat} {f : FuncId} {tmps : Array Value} {assign body : Code} {w : World} {R : Ending → World → Prop}
    (h : RoundIn Fence.wide m P l f tmps assign body w R) : RoundIn Fence.wide m' P l f tmps assign body w R := ⟨h.1, fun c cs _ => h.2 c cs (room_of_wide _)⟩
theorem yieldAt_any {m : Nat} (m' : Nat) {P : Program} {l : Nat} {args : Array Value} {W : World} {R : Ending → World → Prop} (h : YieldAt Fence.wide m P l args W R) : YieldAt Fence.wide m' P l args W R := by
  obtain ⟨fn, tmps, assign, body, hy, hR⟩ := h
  exact ⟨fn, tmps, assign, body, hy, roundIn_any hR⟩

/-- Every block of cells lies as it lay. -/
def CK (A B : World) : Prop := A.heap.size ≤ B.heap.size ∧ ∀ (k : Nat) (o : Obj), A.heap[k]? = some o → o.isCells = true → B.heap[k]? = some o
theorem CK.refl (A : World) : CK A A := ⟨Nat.le_refl _, fun _ _ h _ => h⟩
theorem CK.trans {A B C : World} (h : CK A B) (k : CK B C) : CK A C := ⟨Nat.le_trans h.1 k.1, fun i o hi ho => k.2 i o (h.2 i o hi ho) ho⟩
theorem CK.of_below {A B : World} (h : Below A.heap.size A B) : CK A B := ⟨h.size, fun k o hk _ => (h.block k (lt_of_block hk)).trans hk⟩
theorem CK.alloc (A : World) (o : Obj) : CK A (A.alloc o) := CK.of_below ((Below.refl _ _).alloc (Nat.le_refl _) o)
theorem CK.of_grown {A B : World} {b : Nat} {o : Obj} (h : A.grownBy B (some b)) (hb : A.heap[b]? = some o) (ho : o.isCells = false) : CK A B :=
  ⟨h.size, fun k o' hk hc => (h.block k (lt_of_block hk) (fun e => by
    obtain rfl : k = b := by injection e
    rw [hb] at hk
    obtain rfl : o = o' := by injection hk
    rw [ho] at hc
    cases hc)).trans hk⟩
theorem CK.putObj {A : World} {l : Nat} {o : Obj} (o' : Obj) (h : A.heap[l]? = some o) (ho : o.isCells = false) : CK A (A.putObj l o') := CK.of_grown (grownBy_putObj' A l o') h ho
theorem CK.cell {A B : World} (h : CK A B) {p : Addr} {v : Value} (hc : A.cell? p = some v) : B.cell? p = some v := by
  unfold World.cell? at hc
  split at hc
  · rename_i c t f hh
    unfold World.cell?
    rw [h.2 _ _ hh rfl]
    exact hc
  · cases hc
theorem CK.form {A B : World} (h : CK A B) {S : Nat → Prop} {v : Value} {t : Tree} (hf : FormIn A S v t) : FormIn B S v t := by
  induction hf with
  | node op name a cap ts b off o s v hop hname hlen hcap ha hc hs ih =>
    exact .node op name a cap ts b off o s v hop hname hlen hcap ha (fun i hi => ⟨h.cell (hc i hi).1, h.cell (hc i hi).2.1, h.cell (hc i hi).2.2⟩) ih

theorem CK.forms {A B : World} (h : CK A B) {S : Nat → Prop} {a : Option Addr} {ts : List Tree} (hf : FormsIn A S a ts) : FormsIn B S a ts := by
  obtain ⟨b, off, ha, hc⟩ := hf
  refine ⟨b, off, ha, fun i hi => ?_⟩
  obtain ⟨a', c', h0, h1, h2, h3⟩ := hc i hi
  exact ⟨a', c', h.cell h0, h.cell h1, h.cell h2, h.form h3⟩

/-- What a call of every leaves. -/
def EPost (J Jx : List Nd → World → Prop) (pre : List Nd) (ks : List (Int × ByteArray × Nat)) (W : World) (e : Ending) (W' : World) : Prop :=
  (e = .returned (.bool true) ∧ ∃ ys : List Nd, ys.map Nd.key = ks ∧ J (pre ++ ys) W' ∧ CK W W') ∨ (e = .returned (.bool false) ∧ ∃ q, Jx q W')

set_option maxRecDepth 100000 in
set_option maxHeartbeats 2000000 in
theorem every_in (l N : Nat) (J Jx : List Nd → World → Prop) (hJA : ∀ pre W o, J pre W → J pre (W.alloc o))
    (hY : ∀ m pre (x : Nd) W, J pre W → pre.length < N → YieldAt Fence.wide m Tryz.prog l #[x.val] W fun e W' =>
      (e = .returned (.bool true) ∧ J (pre ++ [x]) W' ∧ CK W W') ∨ (e = .returned (.bool false) ∧ Jx (pre ++ [x]) W')) :
    ∀ (t : Tree) (n : Nat) (v : Value) (pre : List Nd) (W : World), FormAt W none v t → J pre W → pre.length + t.nodes ≤ N →
      CallsIn Fence.wide n Tryz.prog 87 #[v, .func (.yield l) #[] #[]] W (EPost J Jx pre (keysT t) W) := by
  refine Tree.ind fun op name ts ih n v pre W hv hJ hN => ?_
  have HN : Hid ((Tree.node op name ts).nodes = 1 + nodesL ts) := by show _ = _; simp [Tree.nodes]
  have HK : Hid (keysT (.node op name ts) = (op, name, ts.length) :: keysL ts) := by show _ = _; simp [keysT]
  have hN' : pre.length + (1 + nodesL ts) ≤ N := by rw [← HN.out]; exact hN
  obtain ⟨a, cap, b, off, rfl, hop, hname, hlen, hcap, -, -⟩ := hv.form
  have HC := hidIt hv.forms
  simp only [Tree.op_node, Tree.name_node, Tree.args_node] at *
  have IH := hidIt ih
  have HNL := hidIt hN'
  have HBX : Hid (CK W (W.alloc (.cells #[.int .i64 op, .string name, .slice a ts.length cap] 24))) := CK.alloc _ _
  have HX : Hid ((W.alloc (.cells #[.int .i64 op, .string name, .slice a ts.length cap] 24)).heap[W.heap.size]? = some (.cells #[.int .i64 op, .string name, .slice a ts.length cap] 24 (0, 0))) := heap_alloc_new W _
  obtain ⟨x, hx⟩ : ∃ x : Nd, x = ⟨op, name, a, ts.length, cap, hop, hname, hlen, hcap⟩ := ⟨_, rfl⟩
  have hxv : x.val = .agg #[.int .i64 op, .string name, .slice a ts.length cap] := by rw [hx]; rfl
  have HXK : Hid (x.key = (op, name, ts.length)) := by show _ = _; rw [hx]; rfl
  obtain ⟨fn, tmps, assign, body, hy, hR⟩ := hY (n - 1) pre x _ (hJA pre W (.cells #[.int .i64 op, .string name, .slice a ts.length cap] 24) hJ) (by omega)
  rw [hxv] at hy
  have HR := hidIt hR
  have HYY := hidIt hY
  have HJA := hidIt hJA
  have hcap2 := hcap
  unfold maxLen at hcap2
  clear ih hN hN' hv hR hY hJA hx hxv
  refine callsIn_of_wp Tryz.func87 rfl trivial ?_ rfl
  simp only [Tryz.ntmps87, List.size_toArray, List.length_cons, List.length_nil, Nat.reduceAdd, Nat.reduceSub, Array.replicate_succ, Array.replicate_zero, List.push_toArray, List.append_toArray, List.nil_append, List.cons_append]
  gi_wp2
  refine ⟨fun h => (by cases h), HR.out.mono ?_⟩
  rintro e W1 (⟨rfl, hJ1, hb1⟩ | ⟨rfl, hx⟩)
  · have HJ1 := hidIt hJ1
    have HB1 := hidIt (HBX.out.trans hb1)
    obtain ⟨p0, p1, p2⟩ := cell_of3 (hb1.2 _ _ HX.out rfl)
    clear hy hJ1 hb1 HR HBX HX
    gi_wp2
    gi_loopw [14] (fun i wr => ∃ k : Nat, k ≤ ts.length ∧ i = .int .i64 k ∧ Hid (∃ ys : List Nd, ys.map Nd.key = (op, name, ts.length) :: keysL (ts.take k) ∧ J (pre ++ ys) wr) ∧ Hid (CK W wr)) (fun i _ => ts.length - (intOf i).toNat)
    case atStart => exact ⟨0, Nat.zero_le _, rfl, ⟨[x], by simp [keysL, HXK.out], HJ1.out⟩, HB1.out⟩
    case round =>
      obtain ⟨k, hk, rfl, hys, hbel⟩ := hrel
      by_cases hlt : k < ts.length
      · obtain ⟨b', off', a', c', rfl, c0, c1, c2, hf⟩ := (hbel.out.forms HC.out).at k hlt
        obtain ⟨ys, hyk, hJy⟩ := hys.out
        have hlen2 : (pre ++ ys).length + ts[k].nodes ≤ N := by
          have h1 := congrArg List.length hyk
          have h2 : (keysL (ts.take k)).length + ts[k].nodes ≤ nodesL ts := by
            have h3 := congrArg List.length (keysL_take ts k hlt)
            rw [List.length_append, keysT_len] at h3
            have h4 : ∀ l : List Tree, (keysL l).length = nodesL l := by
              intro l
              induction l with
              | nil => simp [keysL, nodesL]
              | cons t l ih2 => simp only [keysL, nodesL, List.length_append, keysT_len, ih2]
            have h5 := nodesL_take_le ts (k + 1)
            rw [h4] at h3
            omega
          have h6 := HNL.out
          rw [List.length_map, List.length_cons] at h1
          rw [List.length_append]
          omega
        have HS := hidIt (keysL_take ts k hlt)
        have hm : ts[k] ∈ ts := List.getElem_mem hlt
        have HCALL := hidIt (IH.out ts[k] hm (n - 1) _ (pre ++ ys) _ ((CK.alloc wr _).form hf) (HJA.out _ wr (.cells #[.int .i64 ts[k].op, .string ts[k].name, .slice a' ts[k].args.length c'] 24) hJy) hlen2)
        have HYK := hidIt hyk
        have hlt0 : (k : Int) < (ts.length : Int) := by omega
        clear hyk hJy hys hf hm hlen2
        generalize ts[k] = t at *
        gi_wp2_with fail
        refine ⟨trivial, fun h => (by cases h), HCALL.out.mono ?_⟩
        rintro e W2 (⟨rfl, ys2, hk2, hJ2, hb2⟩ | ⟨rfl, q, hx⟩)
        · have HB2 : Hid (CK W W2) := hbel.out.trans ((CK.alloc wr _).trans hb2)
          have HY2 : Hid (∃ ys : List Nd, ys.map Nd.key = (op, name, ts.length) :: keysL (ts.take (k + 1)) ∧ J (pre ++ ys) W2) := ⟨ys ++ ys2, by rw [List.map_append, HYK.out, hk2, HS.out, List.cons_append], by rw [← List.append_assoc]; exact hJ2⟩
          clear hk2 hJ2 hb2
          gi_wp2_with fail
          go_roundw
          case rel => exact ⟨k + 1, by omega, by go_num, HY2, HB2⟩
          case measure => simp [intOf]; omega
        · have HXX := hidIt hx
          clear hx
          gi_wp2_with fail
          go_ret
          exact .inr ⟨rfl, _, HXX.out⟩
      · have hkn : k = ts.length := by omega
        obtain ⟨ys, hyk, hJy⟩ := hys.out
        have HYK : Hid (ys.map Nd.key = keysT (.node op name ts)) := by show _ = _; rw [hyk, HK.out, List.take_of_length_le (by omega)]
        have HJY := hidIt hJy
        clear hyk hJy hys
        gi_wp2_with fail
        go_ret
        exact .inl ⟨rfl, ys, HYK.out, HJY.out, hbel.out⟩
  · have HXX := hidIt hx
    clear hy hx
    gi_wp2
    go_ret
    exact .inr ⟨rfl, _, HXX.out⟩
end Go.Proofs.YtilkpjcbmllgmaaGreatDoor

namespace Go.Proofs.YtilkpjcbmllgmaaGreatDoor
set_option linter.unusedVariables false
set_option linter.unusedSimpArgs false
open Go.RowKit Go.Maps

/-- Ascending strings with one more, each once. -/
def insS (x : ByteArray) : List ByteArray → List ByteArray
  | [] => [x]
  | y :: l => if y.data.toList < x.data.toList then y :: insS x l else if y = x then y :: l else x :: y :: l

/-- Strings in ascending order, each once. -/
def AscS (l : List ByteArray) : Prop := l.Pairwise fun a b => a.data.toList < b.data.toList

theorem bytes_eq {a b : ByteArray} (h : a.data.toList = b.data.toList) : a = b := by
  obtain ⟨⟨a⟩⟩ := a
  obtain ⟨⟨b⟩⟩ := b
  simp only at h
  rw [h]

theorem mem_insS (x z : ByteArray) : ∀ l, z ∈ insS x l ↔ z = x ∨ z ∈ l
  | [] => by simp [insS]
  | y :: l => by
    unfold insS
    split
    · rw [List.mem_cons, mem_insS x z l, List.mem_cons]
      constructor
      · rintro (h | h | h)
        · exact .inr (.inl h)
        · exact .inl h
        · exact .inr (.inr h)
      · rintro (h | h | h)
        · exact .inr (.inl h)
        · exact .inl h
        · exact .inr (.inr h)
    · split
      · rename_i h
        subst h
        simp
      · simp

theorem bytes_tri {a b : ByteArray} (h1 : ¬ a.data.toList < b.data.toList) (h2 : a ≠ b) : b.data.toList < a.data.toList := by
  rcases Classical.em (b.data.toList < a.data.toList) with h | h
  · exact h
  · exact absurd (bytes_eq (List.le_antisymm (List.not_lt.1 h) (List.not_lt.1 h1))) h2

theorem ascS_insS (x : ByteArray) : ∀ l, AscS l → AscS (insS x l)
  | [], _ => by simp [insS, AscS]
  | y :: l, h => by
    unfold AscS at h
    rw [List.pairwise_cons] at h
    unfold insS
    split
    · rename_i hlt
      refine List.pairwise_cons.2 ⟨fun z hz => ?_, ascS_insS x l h.2⟩
      rcases (mem_insS x z l).1 hz with rfl | hz
      · exact hlt
      · exact h.1 z hz
    · rename_i hge
      split
      · exact List.pairwise_cons.2 h
      · rename_i hne
        have hxy := bytes_tri hge hne
        refine List.pairwise_cons.2 ⟨fun z hz => ?_, List.pairwise_cons.2 h⟩
        rcases List.mem_cons.1 hz with rfl | hz
        · exact hxy
        · exact List.lt_trans hxy (h.1 z hz)

/-- The strings of a list in ascending order, each once. -/
def ascOf (l : List ByteArray) : List ByteArray := l.foldl (fun acc x => insS x acc) []

theorem ascOf_snoc (l : List ByteArray) (x : ByteArray) : ascOf (l ++ [x]) = insS x (ascOf l) := by simp [ascOf]

theorem ascOf_asc (l : List ByteArray) : AscS (ascOf l) := by
  have : ∀ (l acc : List ByteArray), AscS acc → AscS (l.foldl (fun acc x => insS x acc) acc) := by
    intro l
    induction l with
    | nil => exact fun acc h => h
    | cons x l ih => exact fun acc h => ih _ (ascS_insS x acc h)
  exact this l [] List.Pairwise.nil

theorem mem_ascOf (z : ByteArray) (l : List ByteArray) : z ∈ ascOf l ↔ z ∈ l := by
  have : ∀ (l acc : List ByteArray), z ∈ l.foldl (fun acc x => insS x acc) acc ↔ z ∈ acc ∨ z ∈ l := by
    intro l
    induction l with
    | nil => simp
    | cons x l ih =>
      intro acc
      rw [List.foldl_cons, ih, mem_insS, List.mem_cons]
      constructor
      · rintro ((h | h) | h)
        · exact .inr (.inl h)
        · exact .inl h
        · exact .inr (.inr h)
      · rintro (h | h | h)
        · exact .inl (.inr h)
        · exact .inl (.inl h)
        · exact .inr h
  simpa [ascOf] using this l []

theorem AscS.nodup {l : List ByteArray} (h : AscS l) : l.Nodup := h.imp fun {a b} hab e => by subst e; exact List.lt_irrefl _ hab

/-- Two ascending lists with the same elements are equal. -/
theorem AscS.unique {l m : List ByteArray} (hl : AscS l) (hm : AscS m) (h : ∀ z, z ∈ l ↔ z ∈ m) : l = m :=
  List.Perm.eq_of_pairwise (le := fun (a b : ByteArray) => a.data.toList < b.data.toList) (fun a b _ _ (h1 : a.data.toList < b.data.toList) (h2 : b.data.toList < a.data.toList) => absurd (List.lt_trans h1 h2) (List.lt_irrefl _)) hl hm ((List.perm_ext_iff_of_nodup hl.nodup hm.nodup).2 h)

theorem ascOf_bytes_nodup (l : List ByteArray) : ((ascOf l).map fun s => s.data.toList).Nodup :=
  List.pairwise_map.2 ((ascOf_asc l).imp fun {a b} hab e => by rw [e] at hab; exact List.lt_irrefl _ hab)

/-- What the library's sort makes of a map's keys. -/
theorem sort_keys {l : List ByteArray} {D : DataW Unit} (hT : Tidy D) (hk : ∃ es, D = .map es ∧ ∀ p ∈ es, ∃ x : List UInt8, p.1 = .string x) (hh : ∀ k, has D k = (l.map fun s => Lit.string s.data.toList).any (fun x => x.sameKey k))
    {ss : List (List UInt8)} (hp : ss.Perm (strKeys D)) : ss.mergeSort (fun x y => decide (x ≤ y)) = (ascOf l).map fun s => s.data.toList := by
  obtain ⟨es, rfl, hpw⟩ := hT
  obtain ⟨es', e, hk⟩ := hk
  cases e
  have h1 : ((ascOf l).map fun s => s.data.toList).Perm (strKeys (.map es : DataW Unit)) := by
    refine perm_strKeys hpw hk (ascOf_bytes_nodup l) fun x => ?_
    rw [hh, List.any_map, List.any_eq_true, List.mem_map]
    constructor
    · rintro ⟨s, hs, rfl⟩
      exact ⟨s, (mem_ascOf s l).1 hs, WideAt.sameKey_self (a := .string s.data.toList) trivial⟩
    · rintro ⟨s, hs, h⟩
      have h2 := WideAt.sameKey_eq (a := .string s.data.toList) (b := .string x) h
      exact ⟨s, (mem_ascOf s l).2 hs, by simpa using h2⟩
  have h2 := mergeSort_of_perm (hp.trans h1.symm)
  have h3 : ((ascOf l).map fun s => s.data.toList).Pairwise (fun a b => leB a b = true) :=
    List.pairwise_map.2 ((ascOf_asc l).imp fun {a b} hab => by simp only [leB, decide_eq_true_eq]; exact List.le_of_lt hab)
  rw [List.mergeSort_of_pairwise h3] at h2
  exact h2
end Go.Proofs.YtilkpjcbmllgmaaGreatDoor

namespace Go.Proofs.YtilkpjcbmllgmaaGreatDoor
set_option linter.unusedVariables false
set_option linter.unusedSimpArgs false
open Go Go.RowKit Go.Maps Go.Sort Go.Shelf

theorem sortsM (m : Nat) : AnyZ.SortsIn Tryz.prog Tryz.msorted_ren Fence.wide m :=
  ⟨fun blk off cap ss W hH hblk hsz => callsIn_wide.2 (AnyM.slices_Sort_string Tryz.msort blk off cap ss W hH hblk hsz),
  fun p cap W => callsIn_wide.2 (AnyM.slices_Sort_string_none Tryz.msort p cap W)⟩

theorem keys_any (mb : Option Nat) (W : World) : Calls Tryz.prog 51 #[.map mb] W fun e w' => e = .returned (.func (.func 90) #[] #[.pointer (some ⟨W.heap.size, 0, none⟩)]) ∧ w' = W.alloc (.cells #[.map mb] 66) :=
  callsIn_wide.1 (AnyZ.keys_in Tryz.mkeys Fence.wide 5 trivial rfl mb W)

theorem setD_of (l : List ByteArray) : setD l = setOf (.lit (.bool true)) (l.map fun s => Lit.string s.data.toList) := by
  unfold setD setOf
  rw [List.foldl_map]

theorem lit_keys (l : List ByteArray) : ∀ x ∈ l.map fun s => Lit.string s.data.toList, WideAt.IsKeyLit x := fun x hx => by
  obtain ⟨s, -, rfl⟩ := List.mem_map.1 hx
  trivial

theorem setD_tidy (l : List ByteArray) : Tidy (setD l) := by rw [setD_of]; exact tidy_setOf _ _ (lit_keys l)
theorem setD_has (l : List ByteArray) (k : Lit) : has (setD l) k = (l.map fun s => Lit.string s.data.toList).any (fun x => x.sameKey k) := by rw [setD_of]; exact has_setOf _ k _ (lit_keys l)

theorem setD_size (n : Nat) : ∀ l : List ByteArray, l.length = n → Maps.size (setD l) ≤ l.length := by
  induction n with
  | zero =>
    intro l hl
    obtain rfl := List.eq_nil_of_length_eq_zero hl
    exact Nat.le_refl _
  | succ n ih =>
    intro l hl
    obtain ⟨r, x, rfl⟩ : ∃ r x, l = r ++ [x] := by
      rcases List.eq_nil_or_concat l with h | ⟨r, x, h⟩
      · subst h; simp at hl
      · exact ⟨r, x, by simpa using h⟩
    have hr : r.length = n := by simpa using hl
    have h1 := ih r hr
    rw [setD_snoc, size_put (setD_tidy r)]
    simp only [List.length_append, List.length_singleton]
    split <;> omega

theorem str_len {l : List ByteArray} {ss : List (List UInt8)} (h : ss.mergeSort (fun x y => decide (x ≤ y)) = (ascOf l).map fun s => s.data.toList) : ss.length = (ascOf l).length := by
  have h1 := congrArg List.length h
  rw [List.length_mergeSort, List.length_map] at h1
  exact h1

theorem enc_back (l : List ByteArray) : ((l.map fun s => s.data.toList).map encStr) = l.map Value.string := by
  rw [List.map_map]
  refine List.map_congr_left fun s _ => ?_
  show Value.string ⟨s.data.toList.toArray⟩ = _
  rw [Array.toArray_toList]

set_option maxHeartbeats 1000000 in
theorem sorted_any (b : Nat) (l : List ByteArray) (hl : ∀ s ∈ l, s.size ≤ maxLen) (hlen : l.length ≤ 1000000) (w : World) (hs : SetAt w b l) :
    Calls Tryz.prog 50 #[.func (.func 90) #[] #[.pointer (some ⟨w.heap.size, 0, none⟩)]] (w.alloc (.cells #[.map (some b)] 66)) fun e w' => ∃ v : Value, e = .returned v ∧
      OwnS w' (w.alloc (.cells #[.map (some b)] 66)).heap.size v (ascOf l) ∧ Below (w.alloc (.cells #[.map (some b)] 66)).heap.size (w.alloc (.cells #[.map (some b)] 66)) w' := by
  obtain ⟨nn, hnn, hown⟩ := hs
  have hbl := hown.lt
  have hk : ∃ es, setD l = .map es ∧ ∀ p ∈ es, ∃ x : List UInt8, p.1 = .string x := by
    obtain ⟨es, he, hk⟩ := hown.keysOf
    refine ⟨es, he, fun p hp => ?_⟩
    obtain ⟨key, hkey⟩ := hk p hp
    obtain ⟨x, -, hx, -⟩ := Maps.keyOf_str Tryz.underlying9 hkey
    exact ⟨x, hx⟩
  have hsize : Maps.size (setD l) ≤ l.length := setD_size l.length l rfl
  have hseq : SeqGives Fence.wide 2 Tryz.prog 90 #[.pointer (some ⟨w.heap.size, 0, none⟩)] encStr (fun ss => ss.Perm (strKeys (setD l))) (Maps.size (setD l)) (w.alloc (.cells #[.map (some b)] 66)) :=
    AnyZ.keys_gives (ρ := Tryz.mkeys_ren) { Tryz.mkeys with } Fence.wide _ trivial rfl (by omega) w.heap.size b nn (setD l) _ (by simp) (by simp) (by
      obtain ⟨es, clock, hb, Ft, hs, hD⟩ := hown
      exact ⟨es, clock, (Below.heap_alloc _ _ b hbl).trans hb, Ft, hs, hD⟩)
  refine (callsIn_wide.1 (AnyZ.sorted_in Tryz.msorted Fence.wide 5 trivial trivial trivial trivial rfl (by omega) (sortsM _) (enters_of Tryz.func89 (by kernel_rfl) rfl) 90 #[.pointer (some ⟨w.heap.size, 0, none⟩)] trivial (enters_of Tryz.func90 (by kernel_rfl) rfl) _ _ (by unfold maxLen; omega) (by omega) _ hseq)).mono ?_
  rintro e w' ⟨v, ss, he, hS, hrow, -, hb⟩
  have h1 := sort_keys (setD_tidy l) hk (setD_has l) hS
  rw [h1, str_len h1, enc_back] at hrow
  exact ⟨v, he, ⟨hrow, fun s hs => hl s ((mem_ascOf s l).1 hs)⟩, hb⟩
end Go.Proofs.YtilkpjcbmllgmaaGreatDoor

namespace Go.Proofs.YtilkpjcbmllgmaaGreatDoor
set_option linter.unusedVariables false
set_option linter.unusedSimpArgs false
open Go.RowKit Go.Maps

/-- formula.value answers the value of t in every memory. -/
def ValueOk (t : Tree) : Prop := ∀ (v : Value) (w : World) (mb : Nat) (l : List ByteArray), FormAt w none v t → SetAt w mb l →
  Calls Tryz.prog 54 #[v, .map (some mb)] w fun e w' => e = .returned (.bool (valueB (inB l) t)) ∧ Below w.heap.size w w'

set_option maxRecDepth 100000 in
set_option maxHeartbeats 1000000 in
theorem value1_any (t : Tree) (ht : ValueOk t) (v : Value) (w : World) (mb pm pd : Nat) (l : List ByteArray) (d : Bool) (hv : FormAt w none v t) (hs : SetAt w mb l)
    (hpm : w.cell? ⟨pm, 0, none⟩ = some (.map (some mb))) (hpd : w.cell? ⟨pd, 0, none⟩ = some (.bool d)) :
    Calls Tryz.prog 95 #[v, .pointer (some ⟨pm, 0, none⟩), .pointer (some ⟨pd, 0, none⟩)] w fun e w' => e = .returned (.bool (valueB (inB l) t == d)) ∧ Below w.heap.size w w' := by
  have HV0 := hidIt hv
  obtain ⟨a, cap, b, off, rfl, hop, hname, hlen, hcap, -, -⟩ := hv.form
  have HT := hidIt ht
  have HBX : Hid (Below w.heap.size w (w.alloc (.cells #[.int .i64 t.op, .string t.name, .slice a t.args.length cap] 24))) := (Below.refl _ _).alloc (Nat.le_refl _) _
  have HV := hidIt (HV0.out.go HBX.out)
  have HS := hidIt (hs.go HBX.out)
  have hl1 := World.block_lt_of_cell? w ⟨pm, 0, none⟩ hpm
  have hl2 := World.block_lt_of_cell? w ⟨pd, 0, none⟩ hpd
  rw [← HBX.out.cell (p := ⟨pm, 0, none⟩) hl1] at hpm
  rw [← HBX.out.cell (p := ⟨pd, 0, none⟩) hl2] at hpd
  obtain ⟨x0, x1, x2⟩ := cell_of3 (heap_alloc_new w (.cells #[.int .i64 t.op, .string t.name, .slice a t.args.length cap] 24))
  have K0 := fun y => Ext.cell hpm y
  have K1 := fun y => Ext.cell hpd y
  have L0 := fun y => Ext.cell x0 y
  have L1 := fun y => Ext.cell x1 y
  have L2 := fun y => Ext.cell x2 y
  generalize t.op = op at *
  generalize t.name = name at *
  generalize t.args.length = n at *
  clear hv ht hs HV0 hop hname hlen hcap x0 x1 x2
  go_enter Tryz.func95, Tryz.ntmps95
  go_wp2_with fail
  generalize (w.alloc (.cells #[.int .i64 op, .string name, .slice a n cap] 24)) = W at *
  haveI := Ext.nonempty W
  refine wp_region_in (Ext W) (by kernel_rfl) (by kernel_rfl) (Ext.start W) ?_
  repeat (go_big_quiet_step (refine Ext.call (HT.out _ _ mb l (FormAt.go HV.out (In.h _)) (SetAt.go HS.out (In.h _)))))
  refine wpQuiet_nil ?_
  rintro w5 ⟨⟨_, h5⟩, rfl⟩
  have HB5 : Hid (Below w.heap.size w w5) := HBX.out.trans (Below.mono h5 HBX.out.size)
  clear h5 K0 K1 L0 L1 L2
  go_wp2_with fail
  go_ret
  exact ⟨rfl, HB5.out⟩

theorem enters_value1 : Enters 95 := enters_of Tryz.func95 (by kernel_rfl) rfl

theorem all_of_any (f : Tree → Bool) (ts : List Tree) : ((ts.any fun t => (f t == false)) == false) = ts.all f := by
  induction ts with
  | nil => rfl
  | cons t ts ih => simp only [List.any_cons, List.all_cons, ← ih]; cases f t <;> simp
theorem any_of_any (f : Tree → Bool) (ts : List Tree) : ((ts.any fun t => (f t == true)) == true) = ts.any f := by
  induction ts with
  | nil => rfl
  | cons t ts ih => simp only [List.any_cons, ← ih]; cases f t <;> simp

theorem cell_of1 {w : World} {b : Nat} {x : Value} {t : TypeId} (h : w.heap[b]? = some (.cells #[x] t (0, 0))) : w.cell? ⟨b, 0, none⟩ = some x := by simp [World.cell?, h]

/-- The two boxes that value lays for its parameters. -/
theorem boxes (w : World) (x y z m : Value) (W : World) (hW : (w.alloc (.cells #[x, y, z] 24)).alloc (.cells #[m] 66) = W) : W.cell? ⟨w.heap.size, 2, none⟩ = some z ∧ W.cell? ⟨w.heap.size + 1, 0, none⟩ = some m := by
  subst hW
  exact ⟨(cell_of3 (blk_kept (heap_alloc_new w _) ((Below.refl _ _).alloc (Nat.le_refl _) _))).2.2, cell_of1 (heap_alloc_at (by simp))⟩

theorem boxes3 (w : World) (x y z m d : Value) (W : World) (hW : ((w.alloc (.cells #[x, y, z] 24)).alloc (.cells #[m] 66)).alloc (.cells #[d] 4) = W) :
    W.cell? ⟨w.heap.size, 2, none⟩ = some z ∧ W.cell? ⟨w.heap.size + 1, 0, none⟩ = some m ∧ W.cell? ⟨w.heap.size + 1 + 1, 0, none⟩ = some d ∧ Below w.heap.size w W := by
  obtain ⟨h1, h2⟩ := boxes w x y z m _ rfl
  have hb := (Below.refl _ ((w.alloc (.cells #[x, y, z] 24)).alloc (.cells #[m] 66))).alloc (Nat.le_refl _) (.cells #[d] 4)
  subst hW
  exact ⟨(hb.cell (World.block_lt_of_cell? _ ⟨w.heap.size, 2, none⟩ h1)).trans h1, (hb.cell (World.block_lt_of_cell? _ ⟨w.heap.size + 1, 0, none⟩ h2)).trans h2, cell_of1 (heap_alloc_at (by simp)),
    (((Below.refl _ _).alloc (Nat.le_refl _) _).alloc (by simp) _).alloc (by simp; omega) _⟩

set_option maxRecDepth 100000 in
set_option maxHeartbeats 2000000 in
theorem value_any : ∀ t : Tree, t.all kindB = true → ValueOk t := by
  refine Tree.ind fun op name ts ih hk v w mb l hv hset => ?_
  obtain ⟨k1, k2⟩ := all_self hk
  have hargs := kindB_args k1
  have IH : ∀ t ∈ ts, ValueOk t := fun t ht => ih t ht (allL_mem k2 t ht)
  obtain ⟨a, cap, b, off, rfl, hop, hname, hlen', hcap, -, -⟩ := hv.form
  have HFS := hidIt hv.forms
  simp only [Tree.op_node, Tree.name_node, Tree.args_node] at *
  have hop8 : op = 1 ∨ op = 2 ∨ op = 3 ∨ op = 4 ∨ op = 5 ∨ op = 6 ∨ op = 7 ∨ op = 8 := by
    unfold kindB at k1
    simp only [Tree.op_node] at k1
    grind
  have hmax : cap ≤ maxLen := hcap
  clear ih hk k1 k2 hv hop
  obtain ⟨h4, h5, h7⟩ := hargs
  have IHH := hidIt IH
  have HSET := hidIt hset
  clear IH hset
  have HBX : ∀ o : Obj, Hid (Below w.heap.size w ((w.alloc o).alloc (.cells #[.map (some mb)] 66))) := fun o => ((Below.refl _ _).alloc (Nat.le_refl _) _).alloc (by simp) _
  rcases hop8 with rfl | rfl | rfl | rfl | rfl | rfl | rfl | rfl
  · have HE : Hid (valueB (inB l) (.node 1 name ts) = true) := by show _ = _; simp [valueB]
    clear h4 h5 h7
    go_enter Tryz.func54, Tryz.ntmps54
    go_wp2_with fail
    go_ret
    exact ⟨ret_bool HE.out.symm, (HBX _).out⟩
  · have HE : Hid (valueB (inB l) (.node 2 name ts) = false) := by show _ = _; simp [valueB]
    clear h4 h5 h7
    go_enter Tryz.func54, Tryz.ntmps54
    go_wp2_with fail
    go_ret
    exact ⟨ret_bool HE.out.symm, (HBX _).out⟩
  · have HE : Hid (valueB (inB l) (.node 3 name ts) = inB l name) := by show _ = _; simp [valueB]
    have hlook := (HSET.out.go (HBX (.cells #[.int .i64 3, .string name, .slice a ts.length cap] 24)).out).lookup name hname
    clear h4 h5 h7
    go_enter Tryz.func54, Tryz.ntmps54
    go_wp2_with fail
    go_ret
    exact ⟨ret_bool HE.out.symm, (HBX _).out⟩
  · obtain ⟨t, rfl⟩ : ∃ t, ts = [t] := List.length_eq_one_iff.1 (h4 rfl)
    have HE : Hid (valueB (inB l) (.node 4 name [t]) = !(valueB (inB l) t)) := by show _ = _; simp [valueB, valuesB]
    have ht := hidIt (IHH.out t (by simp))
    obtain ⟨b', off', a', c', rfl, c0, c1, c2, hf⟩ := HFS.out.at 0 (by simp)
    simp only [List.getElem_cons_zero] at c0 c1 c2 hf
    have hbl := World.block_lt_of_cell? w ⟨b', off' + 0 * 3, none⟩ c0
    simp only [Nat.zero_mul, Nat.add_zero, List.length_singleton] at c0 c1 c2 hbl hlen'
    have h01 : ([t] : List Tree).length = 1 := rfl
    rw [h01]
    have HBY := HBX (.cells #[.int .i64 4, .string name, .slice (some ⟨b', off', none⟩) 1 cap] 24)
    rw [← HBY.out.cell (p := ⟨b', off', none⟩) hbl] at c0
    rw [← HBY.out.cell (p := ⟨b', off' + 1, none⟩) hbl] at c1
    rw [← HBY.out.cell (p := ⟨b', off' + 2, none⟩) hbl] at c2
    have HF := hidIt (hf.go HBY.out)
    have HS := hidIt (HSET.out.go HBY.out)
    obtain ⟨x2, x3⟩ := boxes w (.int .i64 4) (.string name) (.slice (some ⟨b', off', none⟩) 1 cap) (.map (some mb)) _ rfl
    have K0 := fun y => Ext.cell c0 y
    have K1 := fun y => Ext.cell c1 y
    have K2 := fun y => Ext.cell c2 y
    have L2 := fun y => Ext.cell x2 y
    have L3 := fun y => Ext.cell x3 y
    clear hf h4 h5 h7 x2 x3 c0 c1 c2
    go_enter Tryz.func54, Tryz.ntmps54
    go_wp2_with fail
    generalize ((w.alloc (.cells #[.int .i64 4, .string name, .slice (some ⟨b', off', none⟩) 1 cap] 24)).alloc (.cells #[.map (some mb)] 66)) = W at *
    haveI := Ext.nonempty W
    refine wp_region_in (Ext W) (by kernel_rfl) (by kernel_rfl) (Ext.start W) ?_
    repeat (go_big_quiet_step (refine Ext.call (ht.out _ _ mb l (FormAt.go HF.out (In.h _)) (SetAt.go HS.out (In.h _)))))
    refine wpQuiet_nil ?_
    rintro w5 ⟨⟨_, h5⟩, rfl⟩
    have HB5 : Hid (Below w.heap.size w w5) := HBY.out.trans (Below.mono h5 HBY.out.size)
    clear h5 K0 K1 K2 L2 L3
    go_wp2_with fail
    go_ret
    exact ⟨ret_bool HE.out.symm, HB5.out⟩
  · have HE : Hid (valueB (inB l) (.node 5 name ts) = ((ts.any fun t => valueB (inB l) t == false) == false)) := by show _ = _; rw [all_of_any]; simp [valueB, valuesB_map, List.all_map]
    have hn : ts.length ≤ 6 := (h5 (.inl rfl)).2
    clear h4 h5 h7
    obtain ⟨W, hW⟩ : ∃ W, W = ((w.alloc (.cells #[.int .i64 5, .string name, .slice a ts.length cap] 24)).alloc (.cells #[.map (some mb)] 66)).alloc (.cells #[.bool false] 4) := ⟨_, rfl⟩
    obtain ⟨x2, x3, x4, hb0⟩ := boxes3 w (.int .i64 5) (.string name) (.slice a ts.length cap) (.map (some mb)) (.bool false) W hW.symm
    have HBY := hidIt hb0
    have hfs : Hid (FormsAt W none a ts) := HFS.out.go HBY.out
    have hss : Hid (SetAt W mb l) := HSET.out.go HBY.out
    have HC : Hid (∀ w', Below W.heap.size W w' → Calls Tryz.prog 96 #[.slice a ts.length cap, .func (.func 95) #[] #[.pointer (some ⟨w.heap.size + 1, 0, none⟩), .pointer (some ⟨w.heap.size + 1 + 1, 0, none⟩)]] w' fun e w2 => e = .returned (.bool (ts.any fun t => valueB (inB l) t == false)) ∧ Below w'.heap.size w' w2) := by
      intro w' hb
      refine containsFF 95 _ enters_value1 _ ts a cap (by omega) w' (FormsIn.go hfs.out hb) ?_
      intro t ht v w2 hb2 hv2
      have hb3 := hb.trans (hb2.mono hb.size)
      exact value1_any t (IHH.out t ht) v w2 mb _ _ l false hv2 (hss.out.go hb3) ((hb3.cell (World.block_lt_of_cell? W ⟨w.heap.size + 1, 0, none⟩ x3)).trans x3) ((hb3.cell (World.block_lt_of_cell? W ⟨w.heap.size + 1 + 1, 0, none⟩ x4)).trans x4)
    have K2 := fun y => Ext.cell x2 y
    have K3 := fun y => Ext.cell x3 y
    have K4 := fun y => Ext.cell x4 y
    generalize hany : (ts.any fun t => valueB (inB l) t == false) = an at HC HE
    clear x2 x3 x4 hfs hss IHH HFS HSET hb0
    go_enter Tryz.func54, Tryz.ntmps54
    go_wp2_with fail
    rw [← hW]
    clear hW hany
    haveI := Ext.nonempty W
    refine wp_region_in (Ext W) (by kernel_rfl) (by kernel_rfl) (Ext.start W) ?_
    repeat (go_big_quiet_step (refine Ext.call (HC.out _ (In.h _))))
    refine wpQuiet_nil ?_
    rintro w5 ⟨⟨_, h5⟩, rfl⟩
    have HB5 : Hid (Below w.heap.size w w5) := HBY.out.trans (Below.mono h5 HBY.out.size)
    clear h5 K2 K3 K4
    go_wp2_with fail
    go_ret
    exact ⟨ret_bool (by rw [HE.out]; cases an <;> rfl), HB5.out⟩
  · have HE : Hid (valueB (inB l) (.node 6 name ts) = ((ts.any fun t => valueB (inB l) t == true) == true)) := by show _ = _; rw [any_of_any]; simp [valueB, valuesB_map, List.any_map]
    have hn : ts.length ≤ 6 := (h5 (.inr rfl)).2
    clear h4 h5 h7
    obtain ⟨W, hW⟩ : ∃ W, W = ((w.alloc (.cells #[.int .i64 6, .string name, .slice a ts.length cap] 24)).alloc (.cells #[.map (some mb)] 66)).alloc (.cells #[.bool true] 4) := ⟨_, rfl⟩
    obtain ⟨x2, x3, x4, hb0⟩ := boxes3 w (.int .i64 6) (.string name) (.slice a ts.length cap) (.map (some mb)) (.bool true) W hW.symm
    have HBY := hidIt hb0
    have hfs : Hid (FormsAt W none a ts) := HFS.out.go HBY.out
    have hss : Hid (SetAt W mb l) := HSET.out.go HBY.out
    have HC : Hid (∀ w', Below W.heap.size W w' → Calls Tryz.prog 96 #[.slice a ts.length cap, .func (.func 95) #[] #[.pointer (some ⟨w.heap.size + 1, 0, none⟩), .pointer (some ⟨w.heap.size + 1 + 1, 0, none⟩)]] w' fun e w2 => e = .returned (.bool (ts.any fun t => valueB (inB l) t == true)) ∧ Below w'.heap.size w' w2) := by
      intro w' hb
      refine containsFF 95 _ enters_value1 _ ts a cap (by omega) w' (FormsIn.go hfs.out hb) ?_
      intro t ht v w2 hb2 hv2
      have hb3 := hb.trans (hb2.mono hb.size)
      exact value1_any t (IHH.out t ht) v w2 mb _ _ l true hv2 (hss.out.go hb3) ((hb3.cell (World.block_lt_of_cell? W ⟨w.heap.size + 1, 0, none⟩ x3)).trans x3) ((hb3.cell (World.block_lt_of_cell? W ⟨w.heap.size + 1 + 1, 0, none⟩ x4)).trans x4)
    have K2 := fun y => Ext.cell x2 y
    have K3 := fun y => Ext.cell x3 y
    have K4 := fun y => Ext.cell x4 y
    generalize hany : (ts.any fun t => valueB (inB l) t == true) = an at HC HE
    clear x2 x3 x4 hfs hss IHH HFS HSET hb0
    go_enter Tryz.func54, Tryz.ntmps54
    go_wp2_with fail
    rw [← hW]
    clear hW hany
    haveI := Ext.nonempty W
    refine wp_region_in (Ext W) (by kernel_rfl) (by kernel_rfl) (Ext.start W) ?_
    repeat (go_big_quiet_step (refine Ext.call (HC.out _ (In.h _))))
    refine wpQuiet_nil ?_
    rintro w5 ⟨⟨_, h5⟩, rfl⟩
    have HB5 : Hid (Below w.heap.size w w5) := HBY.out.trans (Below.mono h5 HBY.out.size)
    clear h5 K2 K3 K4
    go_wp2_with fail
    go_ret
    exact ⟨ret_bool (by rw [HE.out]; cases an <;> rfl), HB5.out⟩
  · obtain ⟨t, u, rfl⟩ : ∃ t u, ts = [t, u] := len_two (h7 (.inl rfl))
    have HE : Hid (valueB (inB l) (.node 7 name [t, u]) = (!(valueB (inB l) t) || valueB (inB l) u)) := by show _ = _; simp [valueB, valuesB]
    have ht := hidIt (IHH.out t (by simp))
    have hu := hidIt (IHH.out u (by simp))
    obtain ⟨b', off', a', c', rfl, c0, c1, c2, hf⟩ := HFS.out.at 0 (by simp)
    obtain ⟨b2, off2, a2, c2', e2, d0, d1, d2, hf2⟩ := HFS.out.at 1 (by simp)
    obtain ⟨rfl, rfl⟩ : b2 = b' ∧ off2 = off' := by
      injection e2 with e2
      injection e2 with e3 e4
      exact ⟨e3.symm, e4.symm⟩
    simp only [List.getElem_cons_zero, List.getElem_cons_succ] at c0 c1 c2 hf d0 d1 d2 hf2
    simp only [Nat.zero_mul, Nat.add_zero, Nat.one_mul] at c0 c1 c2 d0 d1 d2
    simp only [List.length_cons, List.length_nil] at hlen'
    have h01 : ([t, u] : List Tree).length = 2 := rfl
    rw [h01]
    have HBY := HBX (.cells #[.int .i64 7, .string name, .slice (some ⟨b2, off2, none⟩) 2 cap] 24)
    have hbl := World.block_lt_of_cell? w ⟨b2, off2, none⟩ c0
    rw [← HBY.out.cell (p := ⟨b2, off2, none⟩) hbl] at c0
    rw [← HBY.out.cell (p := ⟨b2, off2 + 1, none⟩) hbl] at c1
    rw [← HBY.out.cell (p := ⟨b2, off2 + 2, none⟩) hbl] at c2
    rw [← HBY.out.cell (p := ⟨b2, off2 + 3, none⟩) hbl] at d0
    rw [← HBY.out.cell (p := ⟨b2, off2 + 3 + 1, none⟩) hbl] at d1
    rw [← HBY.out.cell (p := ⟨b2, off2 + 3 + 2, none⟩) hbl] at d2
    have HF := hidIt (hf.go HBY.out)
    have HF2 := hidIt (hf2.go HBY.out)
    have HS := hidIt (HSET.out.go HBY.out)
    obtain ⟨x2, x3⟩ := boxes w (.int .i64 7) (.string name) (.slice (some ⟨b2, off2, none⟩) 2 cap) (.map (some mb)) _ rfl
    have K0 := fun y => Ext.cell c0 y
    have K1 := fun y => Ext.cell c1 y
    have K2 := fun y => Ext.cell c2 y
    have L0 := fun y => Ext.cell d0 y
    have L1 := fun y => Ext.cell d1 y
    have L2 := fun y => Ext.cell d2 y
    have M2 := fun y => Ext.cell x2 y
    have M3 := fun y => Ext.cell x3 y
    have HT := hidIt (fun (w : World) (hf : FormAt w none (.agg #[.int .i64 t.op, .string t.name, .slice a' t.args.length c']) t) (hs : SetAt w mb l) => ht.out _ w mb l hf hs)
    have HU := hidIt (fun (w : World) (hf : FormAt w none (.agg #[.int .i64 u.op, .string u.name, .slice a2 u.args.length c2']) u) (hs : SetAt w mb l) => hu.out _ w mb l hf hs)
    clear hf hf2 h4 h5 h7 c0 c1 c2 d0 d1 d2 x2 x3 e2 ht hu IHH HSET HFS
    generalize valueB (inB l) t = p at *
    generalize valueB (inB l) u = q at *
    go_enter Tryz.func54, Tryz.ntmps54
    go_wp2_with fail
    generalize ((w.alloc (.cells #[.int .i64 7, .string name, .slice (some ⟨b2, off2, none⟩) 2 cap] 24)).alloc (.cells #[.map (some mb)] 66)) = W at *
    haveI := Ext.nonempty W
    cases p
    all_goals
      refine wp_region_in (Ext W) (by kernel_rfl) (by kernel_rfl) (Ext.start W) ?_
      repeat (go_big_quiet_step (first
        | (with_reducible (refine Ext.call (HT.out _ (FormAt.go HF.out (In.h _)) (SetAt.go HS.out (In.h _)))))
        | (with_reducible (refine Ext.call (HU.out _ (FormAt.go HF2.out (In.h _)) (SetAt.go HS.out (In.h _)))))))
      refine wpQuiet_nil ?_
      rintro w5 ⟨⟨_, h5⟩, rfl⟩
      have HB5 : Hid (Below w.heap.size w w5) := HBY.out.trans (Below.mono h5 HBY.out.size)
      clear h5 K0 K1 K2 L0 L1 L2 M2 M3
      go_wp2_with fail
      go_ret
      exact ⟨ret_bool HE.out.symm, HB5.out⟩
  · obtain ⟨t, u, rfl⟩ : ∃ t u, ts = [t, u] := len_two (h7 (.inr rfl))
    have HE : Hid (valueB (inB l) (.node 8 name [t, u]) = (valueB (inB l) t == valueB (inB l) u)) := by show _ = _; simp [valueB, valuesB]
    have ht := hidIt (IHH.out t (by simp))
    have hu := hidIt (IHH.out u (by simp))
    obtain ⟨b', off', a', c', rfl, c0, c1, c2, hf⟩ := HFS.out.at 0 (by simp)
    obtain ⟨b2, off2, a2, c2', e2, d0, d1, d2, hf2⟩ := HFS.out.at 1 (by simp)
    obtain ⟨rfl, rfl⟩ : b2 = b' ∧ off2 = off' := by
      injection e2 with e2
      injection e2 with e3 e4
      exact ⟨e3.symm, e4.symm⟩
    simp only [List.getElem_cons_zero, List.getElem_cons_succ] at c0 c1 c2 hf d0 d1 d2 hf2
    simp only [Nat.zero_mul, Nat.add_zero, Nat.one_mul] at c0 c1 c2 d0 d1 d2
    simp only [List.length_cons, List.length_nil] at hlen'
    have h01 : ([t, u] : List Tree).length = 2 := rfl
    rw [h01]
    have HBY := HBX (.cells #[.int .i64 8, .string name, .slice (some ⟨b2, off2, none⟩) 2 cap] 24)
    have hbl := World.block_lt_of_cell? w ⟨b2, off2, none⟩ c0
    rw [← HBY.out.cell (p := ⟨b2, off2, none⟩) hbl] at c0
    rw [← HBY.out.cell (p := ⟨b2, off2 + 1, none⟩) hbl] at c1
    rw [← HBY.out.cell (p := ⟨b2, off2 + 2, none⟩) hbl] at c2
    rw [← HBY.out.cell (p := ⟨b2, off2 + 3, none⟩) hbl] at d0
    rw [← HBY.out.cell (p := ⟨b2, off2 + 3 + 1, none⟩) hbl] at d1
    rw [← HBY.out.cell (p := ⟨b2, off2 + 3 + 2, none⟩) hbl] at d2
    have HF := hidIt (hf.go HBY.out)
    have HF2 := hidIt (hf2.go HBY.out)
    have HS := hidIt (HSET.out.go HBY.out)
    obtain ⟨x2, x3⟩ := boxes w (.int .i64 8) (.string name) (.slice (some ⟨b2, off2, none⟩) 2 cap) (.map (some mb)) _ rfl
    have K0 := fun y => Ext.cell c0 y
    have K1 := fun y => Ext.cell c1 y
    have K2 := fun y => Ext.cell c2 y
    have L0 := fun y => Ext.cell d0 y
    have L1 := fun y => Ext.cell d1 y
    have L2 := fun y => Ext.cell d2 y
    have M2 := fun y => Ext.cell x2 y
    have M3 := fun y => Ext.cell x3 y
    have HT := hidIt (fun (w : World) (hf : FormAt w none (.agg #[.int .i64 t.op, .string t.name, .slice a' t.args.length c']) t) (hs : SetAt w mb l) => ht.out _ w mb l hf hs)
    have HU := hidIt (fun (w : World) (hf : FormAt w none (.agg #[.int .i64 u.op, .string u.name, .slice a2 u.args.length c2']) u) (hs : SetAt w mb l) => hu.out _ w mb l hf hs)
    clear hf hf2 h4 h5 h7 c0 c1 c2 d0 d1 d2 x2 x3 e2 ht hu IHH HSET HFS
    generalize valueB (inB l) t = p at *
    generalize valueB (inB l) u = q at *
    go_enter Tryz.func54, Tryz.ntmps54
    go_wp2_with fail
    generalize ((w.alloc (.cells #[.int .i64 8, .string name, .slice (some ⟨b2, off2, none⟩) 2 cap] 24)).alloc (.cells #[.map (some mb)] 66)) = W at *
    haveI := Ext.nonempty W
    all_goals
      refine wp_region_in (Ext W) (by kernel_rfl) (by kernel_rfl) (Ext.start W) ?_
      repeat (go_big_quiet_step (first
        | (with_reducible (refine Ext.call (HT.out _ (FormAt.go HF.out (In.h _)) (SetAt.go HS.out (In.h _)))))
        | (with_reducible (refine Ext.call (HU.out _ (FormAt.go HF2.out (In.h _)) (SetAt.go HS.out (In.h _)))))))
      refine wpQuiet_nil ?_
      rintro w5 ⟨⟨_, h5⟩, rfl⟩
      have HB5 : Hid (Below w.heap.size w w5) := HBY.out.trans (Below.mono h5 HBY.out.size)
      clear h5 K0 K1 K2 L0 L1 L2 M2 M3
      go_wp2_with fail
      go_ret
      exact ⟨ret_bool HE.out.symm, HB5.out⟩

/-- Is every node of a kind with the right name and number of arguments? -/
def wellF (t : Tree) : Bool := t.all (fun t => kindB t && nameB t)
theorem wellF_split (t : Tree) : wellF t = (t.all kindB && t.all nameB) := wellB_split t

theorem enters_well1 : Enters 92 := enters_of Tryz.func92 (by kernel_rfl) rfl

set_option maxHeartbeats 400000 in
theorem well1_any : Tests 92 (fun t => kindB t && nameB t) := by
  intro t v w h
  obtain ⟨a, cap, b, off, rfl, -⟩ := h.form
  have H := hidIt h
  clear h
  cases hk : kindB t
  · have HK := hidIt hk
    clear hk
    go_enter Tryz.func92, Tryz.ntmps92
    go_wp2_with fail
    refine (kindFits_any t _ _ (H.out.go ((Below.refl _ _).alloc (Nat.le_refl _) _))).mono ?_
    rintro e w' ⟨rfl, hb⟩
    rw [HK.out]
    have HB := hidIt (below_box hb)
    clear hb
    go_wp2_with fail
    go_ret
    exact ⟨ret_bool (by rw [HK.out]; rfl), HB.out⟩
  · have HK := hidIt hk
    clear hk
    go_enter Tryz.func92, Tryz.ntmps92
    go_wp2_with fail
    refine (kindFits_any t _ _ (H.out.go ((Below.refl _ _).alloc (Nat.le_refl _) _))).mono ?_
    rintro e w' ⟨rfl, hb⟩
    rw [HK.out]
    have HB := hidIt (below_box hb)
    have HF := hidIt (H.out.go (below_box hb))
    obtain ⟨p0, p1, p2⟩ := cell_of3 (laid_box hb)
    have hsz : w.heap.size < w'.heap.size := lt_of_block (laid_box hb)
    clear hb
    go_wp2_with fail
    refine (nameFits_any t _ _ HF.out).mono ?_
    rintro e w2 ⟨rfl, hb2⟩
    have HB2 := hidIt (HB.out.trans (hb2.mono HB.out.size))
    clear hb2
    go_wp2_with fail
    go_ret
    exact ⟨ret_bool (by rw [HK.out]; rfl), HB2.out⟩

set_option maxHeartbeats 400000 in
theorem well_any (t : Tree) (v : Value) (w : World) (h : FormAt w none v t) :
    Calls Tryz.prog 53 #[v] w fun e w' => e = .returned (.bool (wellF t)) ∧ Below w.heap.size w w' := by
  obtain ⟨a, cap, b, off, rfl, -⟩ := h.form
  have H := hidIt h
  clear h
  go_enter Tryz.func53, Tryz.ntmps53
  go_wp2_with fail
  refine (every_any _ _ enters_well1 well1_any t _ _ (H.out.go ((Below.refl _ _).alloc (Nat.le_refl _) _))).mono ?_
  rintro e w' ⟨rfl, hb⟩
  have HB := hidIt (below_box hb)
  clear hb
  go_wp2_with fail
  go_ret
  exact ⟨rfl, HB.out⟩
/-- What Eval answers. -/
def evalB (t : Tree) (yes : List ByteArray) : Bool := wellF t && valueB (inB yes) t

set_option maxRecDepth 100000 in
set_option maxHeartbeats 1000000 in
theorem eval_any (t : Tree) (v : Value) (ya : Option Addr) (yc : Nat) (yes : List ByteArray) (hn : yes.length ≤ 1000000) (w : World) (h : FormAt w none v t) (hy : StrsIn w (fun _ => True) ya yes) :
    Calls Tryz.prog 14 #[v, .slice ya yes.length yc] w fun e w' => e = .returned (.bool (evalB t yes)) ∧ Below w.heap.size w w' := by
  have hmm := @run_makeMap Tryz.prog
  have H0 := hidIt h
  obtain ⟨a, cap, b, off, rfl, hop, hname, hlen, hcap, -, -⟩ := h.form
  have HY0 := hidIt hy
  have HE : Hid (evalB t yes = (wellF t && valueB (inB yes) t)) := rfl
  have HOK := hidIt (fun hk => value_any t hk)
  have HWELL := hidIt (well_any t)
  have HSP := hidIt (wellF_split t)
  clear h hy
  generalize t.op = op at *
  generalize t.name = name at *
  generalize t.args.length = n at *
  clear hop hname hlen hcap
  go_enter Tryz.func14, Tryz.ntmps14
  go_wp2_with fail
  have HB0 : Hid (Below w.heap.size w ((w.alloc (.cells #[.int .i64 op, .string name, .slice a n cap] 24)).alloc (.map #[] 0))) := ((Below.refl _ _).alloc (Nat.le_refl _) _).alloc (by simp) _
  have HX : Hid (((w.alloc (.cells #[.int .i64 op, .string name, .slice a n cap] 24)).alloc (.map #[] 0)).heap[w.heap.size]? = some (.cells #[.int .i64 op, .string name, .slice a n cap] 24 (0, 0))) := blk_kept (heap_alloc_new w _) ((Below.refl _ _).alloc (Nat.le_refl _) _)
  have HM : Hid (SetAt ((w.alloc (.cells #[.int .i64 op, .string name, .slice a n cap] 24)).alloc (.map #[] 0)) (w.heap.size + 1) []) := by
    have := SetAt.made (w.alloc (.cells #[.int .i64 op, .string name, .slice a n cap] 24))
    exact hidIt (by simpa using this)
  go_loopw [11] (fun i wr => ∃ k : Nat, k ≤ yes.length ∧ i = .int .i64 k ∧ Hid (wr.heap[w.heap.size]? = some (.cells #[.int .i64 op, .string name, .slice a n cap] 24 (0, 0))) ∧ Hid (SetAt wr (w.heap.size + 1) (yes.take k)) ∧ Hid (Below w.heap.size w wr)) (fun i _ => yes.length - (intOf i).toNat)
  case atStart => exact ⟨0, Nat.zero_le _, rfl, HX, HM, HB0⟩
  case round =>
    clear HB0 HX HM
    obtain ⟨k, hk, rfl, hx, hset, hbel⟩ := hrel
    by_cases hlt : k < yes.length
    · obtain ⟨b', off', rfl, c0, hs⟩ := (HY0.out.go hbel.out).at k hlt
      have hst := hidIt (take_snoc' yes k hlt)
      generalize yes[k] = s at *
      obtain ⟨w3, hrun3, hset3, hg3⟩ := hset.out.put s hs (by rw [List.length_take]; omega)
      have HS3 := hidIt hset3
      have HG3 := hidIt hg3
      clear hset3 hg3
      go_wp2_with fail
      go_roundw
      case rel => exact ⟨k + 1, by omega, by go_num, own_kept hx.out HG3.out (by omega), by show SetAt _ _ _; rw [hst.out]; exact HS3.out, hbel.out.grown HG3.out hbel.out.size (fun g e => by injection e with e; omega)⟩
      case measure => simp [intOf]; omega
    · have htk : Hid (yes.take k = yes) := List.take_of_length_le (by omega)
      have HS := hset.out
      rw [htk.out] at HS
      have HSS := hidIt HS
      obtain ⟨x0, x1, x2⟩ := cell_of3 hx.out
      have hlx := lt_of_block hx.out
      have HF := hidIt (H0.out.go hbel.out)
      clear HS htk hset
      cases hw : wellF t
      · have HW := hidIt hw
        clear hw
        go_wp2_with fail
        refine (HWELL.out _ _ HF.out).mono ?_
        rintro e w4 ⟨rfl, hb4⟩
        rw [HW.out]
        have HB4 := hidIt (hbel.out.trans (hb4.mono hbel.out.size))
        clear hb4
        go_wp2_with fail
        go_ret
        exact ⟨ret_bool (by rw [HE.out, HW.out]; rfl), HB4.out⟩
      · have HW := hidIt hw
        have hkk : t.all kindB = true := by
          have := HSP.out
          rw [hw] at this
          cases h1 : t.all kindB
          · rw [h1] at this; cases this
          · rfl
        have HV := hidIt (HOK.out hkk)
        clear hw hkk
        go_wp2_with fail
        refine (HWELL.out _ _ HF.out).mono ?_
        rintro e w4 ⟨rfl, hb4⟩
        rw [HW.out]
        have HB4 := hidIt (hbel.out.trans (hb4.mono hbel.out.size))
        have HX4 := blk_kept hx.out hb4
        have HF4 := hidIt (HF.out.go hb4)
        have HS4 := hidIt (HSS.out.go hb4)
        clear hb4 x0 x1 x2 hlx
        obtain ⟨x0, x1, x2⟩ := cell_of3 HX4
        have hlx := lt_of_block HX4
        clear HX4
        go_wp2_with fail
        refine (HV.out _ _ _ yes HF4.out HS4.out).mono ?_
        rintro e w5 ⟨rfl, hb5⟩
        have HB5 := hidIt (HB4.out.trans (hb5.mono HB4.out.size))
        clear hb5
        go_wp2_with fail
        go_ret
        exact ⟨ret_bool (by rw [HE.out, HW.out]; rfl), HB5.out⟩
end Go.Proofs.YtilkpjcbmllgmaaGreatDoor

namespace Go.Proofs.YtilkpjcbmllgmaaGreatDoor
set_option linter.unusedVariables false
set_option linter.unusedSimpArgs false
open Go Go.RowKit

/-- Block b is a row of these headers. -/
def FRow (w : World) (b : Nat) (hs : List Hd) : Prop := w.heap[b]? = some (.cells (flatF hs).toArray 24 (0, 0))

theorem flatF_set : ∀ (hs : List Hd) (k : Nat) (h : Hd), k < hs.length → flatF (hs.set k h) = (((flatF hs).set (k * 3) (.int .i64 h.op)).set (k * 3 + 1) (.string h.name)).set (k * 3 + 2) (.slice h.a h.n h.c)
  | x :: l, 0, h, _ => by simp [flatF, Hd.cells]
  | x :: l, k + 1, h, hk => by
    have ih := flatF_set l k h (by simpa using hk)
    have e0 : (k + 1) * 3 = k * 3 + 3 := by omega
    have e1 : (k + 1) * 3 + 1 = (k * 3 + 1) + 3 := by omega
    have e2 : (k + 1) * 3 + 2 = (k * 3 + 2) + 3 := by omega
    rw [e1, e2, e0]
    simp only [List.set_cons_succ, flatF, Hd.cells, ih, List.cons_append, List.nil_append]

section
variable {w w' : World} {b : Nat} {hs : List Hd}
theorem FRow.free (h : FRow w b hs) (k : Nat) : w.frozen? ⟨b, k, none⟩ = false := free_any h k
theorem FRow.lt (h : FRow w b hs) : b < w.heap.size := lt_of_block h
theorem FRow.kept (h : FRow w b hs) (hb : Below w.heap.size w w') : FRow w' b hs := blk_kept h hb
theorem FRow.set (h : FRow w b hs) (k : Nat) (hk : k < hs.length) (x : Hd) : FRow (((w.setCell ⟨b, k * 3, none⟩ (.int .i64 x.op)).setCell ⟨b, k * 3 + 1, none⟩ (.string x.name)).setCell ⟨b, k * 3 + 2, none⟩ (.slice x.a x.n x.c)) b (hs.set k x) := by
  unfold FRow
  rw [setCell_heap_self (setCell_heap_self (setCell_heap_self h _) _) _, flatF_set hs k x hk]
  simp
theorem FRow.cell (h : FRow w b hs) (k j : Nat) (hk : k < hs.length) (hj : j < 3) : w.cell? ⟨b, k * 3 + j, none⟩ = (hs[k]).cells[j]? := by
  have h1 := flatF_get hs k j hk hj
  have h2 : w.cell? ⟨b, k * 3 + j, none⟩ = (flatF hs)[k * 3 + j]? := by
    unfold FRow at h
    simp [World.cell?, h]
  rw [h2, h1]
end

theorem made_flat (n : Nat) : madeCells #[.int .i64 0, .string ⟨#[]⟩, .slice none 0 0] (n * 3) = (flatF (List.replicate n (⟨0, ⟨#[]⟩, none, 0, 0⟩ : Hd))).toArray := by
  apply Array.ext
  · rw [size_madeCells]
    simp [flatF_len]
  · intro i h1 h2
    rw [size_madeCells] at h1
    obtain ⟨q, j, rfl, hj⟩ : ∃ q j, i = q * 3 + j ∧ j < 3 := ⟨i / 3, i % 3, by omega, by omega⟩
    have hq : q < n := by omega
    have h3 := flatF_get (List.replicate n (⟨0, ⟨#[]⟩, none, 0, 0⟩ : Hd)) q j (by simpa using hq) hj
    have h4 : (flatF (List.replicate n (⟨0, ⟨#[]⟩, none, 0, 0⟩ : Hd)))[q * 3 + j]? = some ((flatF (List.replicate n (⟨0, ⟨#[]⟩, none, 0, 0⟩ : Hd)))[q * 3 + j]'(by simpa using h2)) := List.getElem?_eq_getElem _
    rw [h4] at h3
    have e : (q * 3 + j) % 3 = j := by omega
    simp only [madeCells, Array.getElem_map, Array.getElem_range, List.getElem_toArray]
    have h5 : some ((flatF (List.replicate n (⟨0, ⟨#[]⟩, none, 0, 0⟩ : Hd)))[q * 3 + j]'(by simpa using h2)) = some (#[Value.int .i64 0, .string ⟨#[]⟩, .slice none 0 0][(q * 3 + j) % 3]!) := by
      rw [h3, e]
      have : j = 0 ∨ j = 1 ∨ j = 2 := by omega
      rcases this with rfl | rfl | rfl <;> simp [Hd.cells]
    injection h5 with h5
    exact h5.symm

theorem infoF3 : (Tryz.prog.info? 24).map (fun i => (i.zero, i.size, i.bytes)) = some (some (.agg #[.int .i64 0, .string ⟨#[]⟩, .slice none 0 0]), 3, 48) := infoF

theorem make_forms (n : Nat) (hn : n ≤ 1000000) (w : World) : (Instr.makeSlice 22 (.int .i64 (n : Int)) (.int .i64 (n : Int))).run Tryz.prog w = .ok (.slice (some ⟨w.heap.size, 0, none⟩) n n) (w.alloc (.cells (flatF (List.replicate n (⟨0, ⟨#[]⟩, none, 0, 0⟩ : Hd))).toArray 24)) := by
  obtain ⟨i0, hi, hz0, hz1, hz2⟩ := info_parts infoF3
  have hr := run_make (P := Tryz.prog) w 22 24 i0 _ Tryz.underlying22 hi hz0 .i64 .i64 (n : Int) (n : Int) (by omega) (by omega) (by rw [hz2]; omega) (by omega)
  rw [hz1] at hr
  simp only [Int.toNat_natCast] at hr
  rw [← made_flat n]
  exact hr

/-- A formula that the call made: all of it is new. -/
def FMade (w : World) (t : Tree) (e : Ending) (w' : World) : Prop := ∃ (o : Int) (s : ByteArray) (a : Option Addr) (n c : Nat), e = .returned (.agg #[.int .i64 o, .string s, .slice a n c]) ∧ FormIn w' (fun i => w.heap.size ≤ i) (.agg #[.int .i64 o, .string s, .slice a n c]) t ∧ Below w.heap.size w w'

/-- The first k arguments are made. -/
def Filled (w : World) (b : Nat) (hs : List Hd) (us : List Tree) (k : Nat) : Prop := ∀ i (h : i < hs.length) (h' : i < us.length), i < k → FormIn w (fun j => b < j) (hs[i]).val us[i]

theorem Filled.forms {w : World} {b : Nat} {hs : List Hd} {us : List Tree} (h : Filled w b hs us us.length) (hr : FRow w b hs) (hl : hs.length = us.length) : FormsIn w (fun j => b ≤ j) (some ⟨b, 0, none⟩) us := by
  refine ⟨b, 0, fun _ => ⟨rfl, Nat.le_refl _⟩, fun i hi => ?_⟩
  have hi' : i < hs.length := by omega
  have hf := h i hi' hi hi
  obtain ⟨e1, e2, e3⟩ := FormIn.shape (show FormIn w _ (.agg #[.int .i64 (hs[i]).op, .string (hs[i]).name, .slice (hs[i]).a (hs[i]).n (hs[i]).c]) us[i] from hf)
  have g0 := hr.cell i 0 hi' (by omega)
  have g1 := hr.cell i 1 hi' (by omega)
  have g2 := hr.cell i 2 hi' (by omega)
  simp only [Hd.cells, List.getElem?_cons_zero, List.getElem?_cons_succ, e1, e2, e3] at g0 g1 g2
  refine ⟨(hs[i]).a, (hs[i]).c, by simpa using g0, by simpa using g1, by simpa using g2, ?_⟩
  have h4 := FormIn.mono (S' := fun j => b ≤ j) hf (fun j _ hj => Nat.le_of_lt hj)
  simp only [Hd.val, e1, e2, e3] at h4
  exact h4

theorem below_of_row2 {w w1 w2 : World} {b : Nat} (h : Below w.heap.size w w1) (hg : w1.grownBy w2 (some b)) (hB : w.heap.size ≤ b) : Below w.heap.size w w2 :=
  ⟨hg.os.trans h.os, hg.tape.trans h.tape, hg.output.trans h.output, Nat.le_trans h.size hg.size, fun i hi =>
    (hg.block i (Nat.lt_of_lt_of_le hi h.size) (fun e => by injection e with e; omega)).trans (h.block i hi)⟩

theorem set_row (w : World) (b k : Nat) (x y z : Value) : w.grownBy (((w.setCell ⟨b, k, none⟩ x).setCell ⟨b, k + 1, none⟩ y).setCell ⟨b, k + 2, none⟩ z) (some b) :=
  only_setCell (p := ⟨b, k + 2, none⟩) (only_setCell (p := ⟨b, k + 1, none⟩) (only_setCell (p := ⟨b, k, none⟩) (only_refl w (some b)) (.inl rfl) x) (.inl rfl) y) (.inl rfl) z

theorem Filled.kept {w w' : World} {b : Nat} {hs : List Hd} {us : List Tree} {k : Nat} (h : Filled w b hs us k) (hg : w.grownBy w' (some b)) : Filled w' b hs us k := fun i hi hi' hk =>
  FormIn.kept (h i hi hi' hk) fun j hj hl => hg.block j hl (fun e => by injection e with e; omega)
theorem Filled.step {w w' : World} {b : Nat} {hs : List Hd} {us : List Tree} {k : Nat} {x : Hd} (h : Filled w b hs us k) (hg : w.grownBy w' (some b)) (hk : k < us.length) (hx : FormIn w (fun j => b < j) x.val us[k]) : Filled w' b (hs.set k x) us (k + 1) := by
  intro i hi hi' hik
  by_cases e : i = k
  · subst e
    rw [List.getElem_set_self]
    exact FormIn.kept hx fun j hj hl => hg.block j hl (fun e => by injection e with e; omega)
  · rw [List.getElem_set_ne (fun h => e h.symm)]
    exact (h.kept hg) i (by simpa using hi) hi' (by omega)

set_option maxRecDepth 100000 in
set_option maxHeartbeats 1000000 in
theorem withArgs_any (f : Nat) (cap : Array Value) (hcf : Enters f) (q : Tree → Tree) (op : Int) (name : ByteArray) (ts : List Tree) (a : Option Addr) (cp : Nat) (hn : ts.length ≤ 1000000) (w : World) (h : FormAt w none (.agg #[.int .i64 op, .string name, .slice a ts.length cp]) (.node op name ts))
    (hq : ∀ t ∈ ts, ∀ (v : Value) (w' : World), Below w.heap.size w w' → FormAt w' none v t → Calls Tryz.prog f (#[v] ++ cap) w' (FMade w' (q t))) :
    Calls Tryz.prog 60 #[.agg #[.int .i64 op, .string name, .slice a ts.length cp], .func (.func f) #[] cap] w (FMade w (.node op name (ts.map q))) := by
  have HW := hidIt h
  obtain ⟨a0, cp0, b0, off0, e0, hop, hname, hlen, hcp, -, -⟩ := h.form
  simp only [Tree.op_node, Tree.name_node, Tree.args_node] at hop hname hlen
  clear e0
  have HF : Hid (FormsAt w none a ts) := FormIn.forms h
  have HQ := hidIt hq
  have hmk := make_forms ts.length hn
  have HOP := hidIt hop
  have HNM := hidIt hname
  clear h hq hop hname hlen hcp
  go_enter Tryz.func60, Tryz.ntmps60
  go_wp2_with fail
  have HB0 : Hid (Below w.heap.size w (((w.alloc (.cells #[.int .i64 op, .string name, .slice a ts.length cp] 24)).alloc (.cells #[.int .i64 0, .string ⟨#[]⟩, .slice none 0 0] 24)).alloc (.cells (flatF (List.replicate ts.length (⟨0, ⟨#[]⟩, none, 0, 0⟩ : Hd))).toArray 24))) := (((Below.refl _ _).alloc (Nat.le_refl _) _).alloc (by simp) _).alloc (by simp; omega) _
  have HX0 : Hid ((((w.alloc (.cells #[.int .i64 op, .string name, .slice a ts.length cp] 24)).alloc (.cells #[.int .i64 0, .string ⟨#[]⟩, .slice none 0 0] 24)).alloc (.cells (flatF (List.replicate ts.length (⟨0, ⟨#[]⟩, none, 0, 0⟩ : Hd))).toArray 24)).heap[w.heap.size]? = some (.cells #[.int .i64 op, .string name, .slice a ts.length cp] 24 (0, 0))) := blk_kept (blk_kept (heap_alloc_new w _) (Grows.alloc _ _)) (Grows.alloc _ _)
  have HY0 : Hid ((((w.alloc (.cells #[.int .i64 op, .string name, .slice a ts.length cp] 24)).alloc (.cells #[.int .i64 0, .string ⟨#[]⟩, .slice none 0 0] 24)).alloc (.cells (flatF (List.replicate ts.length (⟨0, ⟨#[]⟩, none, 0, 0⟩ : Hd))).toArray 24)).heap[w.heap.size + 1]? = some (.cells #[.int .i64 0, .string ⟨#[]⟩, .slice none 0 0] 24 (0, 0))) := blk_kept (heap_alloc_at (by simp)) (Grows.alloc _ _)
  have HR0 : Hid (FRow (((w.alloc (.cells #[.int .i64 op, .string name, .slice a ts.length cp] 24)).alloc (.cells #[.int .i64 0, .string ⟨#[]⟩, .slice none 0 0] 24)).alloc (.cells (flatF (List.replicate ts.length (⟨0, ⟨#[]⟩, none, 0, 0⟩ : Hd))).toArray 24)) (w.heap.size + 1 + 1) (List.replicate ts.length (⟨0, ⟨#[]⟩, none, 0, 0⟩ : Hd))) := heap_alloc_at (by simp)
  clear hmk
  unfold Enters at hcf
  go_loopw [15] (fun i wr => ∃ (k : Nat) (hs : List Hd), k ≤ ts.length ∧ i = .int .i64 k ∧ Hid (hs.length = ts.length) ∧ Hid (FRow wr (w.heap.size + 1 + 1) hs) ∧ Hid (Filled wr (w.heap.size + 1 + 1) hs (ts.map q) k) ∧ Hid (wr.heap[w.heap.size]? = some (.cells #[.int .i64 op, .string name, .slice a ts.length cp] 24 (0, 0))) ∧
    Hid (wr.heap[w.heap.size + 1]? = some (.cells #[.int .i64 0, .string ⟨#[]⟩, .slice none 0 0] 24 (0, 0))) ∧ Hid (Below w.heap.size w wr)) (fun i _ => ts.length - (intOf i).toNat)
  case atStart => exact ⟨0, _, Nat.zero_le _, rfl, List.length_replicate, HR0, (fun i hi hi' hk => by omega), HX0, HY0, HB0⟩
  case round =>
    clear HB0 HX0 HY0 HR0
    obtain ⟨k, hs, hk, rfl, hlen, hrow, hfill, hbx, hby, hbel⟩ := hrel
    by_cases hlt : k < ts.length
    · obtain ⟨b', off', a', c', rfl, c0, c1, c2, hf⟩ := (HF.out.go hbel.out).at k hlt
      have hm : ts[k] ∈ ts := List.getElem_mem hlt
      have hqk : Hid ((ts.map q)[k]? = some (q ts[k])) := by show _ = _; simp [hlt]
      have HF1 := hidIt hf
      clear hf
      generalize ts[k] = t at *
      go_wp2_with fail
      have hbc : Below wr.heap.size wr (wr.alloc (.cells #[.int .i64 t.op, .string t.name, .slice a' t.args.length c'] 24)) := Grows.alloc _ _
      refine (HQ.out t hm _ _ (hbel.out.trans (hbc.mono hbel.out.size)) (FormAt.go HF1.out hbc)).mono ?_
      rintro e w2 ⟨ro, rs, ra, rn, rc, rfl, hf2, hb2⟩
      have hb2' : Below wr.heap.size wr w2 := below_box hb2
      have HR2 := hidIt (hrow.out.kept hb2')
      have HL2 := hidIt (hfill.out.kept (only_of_below hb2' _))
      have HBX2 := hidIt (blk_kept hbx.out hb2')
      have HBY2 := hidIt (blk_kept hby.out hb2')
      have HB2 := hidIt (hbel.out.trans (hb2'.mono hbel.out.size))
      have hnb : w.heap.size + 1 + 1 < wr.heap.size := hrow.out.lt
      have HF2 : Hid (FormIn w2 (fun j => w.heap.size + 1 + 1 < j) (.agg #[.int .i64 ro, .string rs, .slice ra rn rc]) (q t)) := hf2.mono fun j _ hj => by simp at hj; omega
      have hlen2 := hlen.out
      have q0 : w2.cell? ⟨w.heap.size + 1 + 1, k * 3, none⟩ = (hs[k]'(by omega)).cells[0]? := HR2.out.cell k 0 (by omega) (by omega)
      have q1 : w2.cell? ⟨w.heap.size + 1 + 1, k * 3 + 1, none⟩ = (hs[k]'(by omega)).cells[1]? := HR2.out.cell k 1 (by omega) (by omega)
      have q2 : w2.cell? ⟨w.heap.size + 1 + 1, k * 3 + 2, none⟩ = (hs[k]'(by omega)).cells[2]? := HR2.out.cell k 2 (by omega) (by omega)
      have f0 := HR2.out.free (k * 3)
      have f1 := HR2.out.free (k * 3 + 1)
      have f2 := HR2.out.free (k * 3 + 2)
      simp only [Hd.cells, List.getElem?_cons_zero, List.getElem?_cons_succ] at q0 q1 q2
      clear hf2 hb2 hb2' hbc c0 c1 c2
      go_wp2_with fail
      go_roundw
      case rel =>
        have hg := set_row w2 (w.heap.size + 1 + 1) (k * 3) (.int .i64 ro) (.string rs) (.slice ra rn rc)
        have hku : k < (ts.map q).length := by simpa using hlt
        have he : (ts.map q)[k] = q t := by
          have := hqk.out
          rw [List.getElem?_eq_getElem hku] at this
          injection this
        refine ⟨k + 1, hs.set k ⟨ro, rs, ra, rn, rc⟩, by omega, by go_num, by show _ = _; rw [List.length_set]; exact hlen.out, HR2.out.set k (by omega) ⟨ro, rs, ra, rn, rc⟩, HL2.out.step hg hku (by rw [he]; exact HF2.out), ?_, ?_, below_of_row2 HB2.out hg (by omega)⟩
        · show _ = _
          rw [hg.block _ (lt_of_block HBX2.out) (fun e => by injection e with e; omega)]
          exact HBX2.out
        · show _ = _
          rw [hg.block _ (lt_of_block HBY2.out) (fun e => by injection e with e; omega)]
          exact HBY2.out
      case measure => simp [intOf]; omega
    · obtain rfl : k = ts.length := by omega
      obtain ⟨x0, x1, x2⟩ := cell_of3 hbx.out
      obtain ⟨y0, y1, y2⟩ := cell_of3 hby.out
      obtain ⟨z0, z1, z2⟩ := cells_free hby.out
      have hly := lt_of_block hby.out
      go_wp2_with fail
      refine bodyPost_ret (v := .agg #[.int .i64 op, .string name, .slice (some ⟨w.heap.size + 1 + 1, 0, none⟩) ts.length ts.length]) (by simp [results, Tryz.results60, go_sem, y0, y1, y2, hly]) rfl ?_
      have h3 := set_three wr (w.heap.size + 1) (.int .i64 op) (.string name) (.slice (some ⟨w.heap.size + 1 + 1, 0, none⟩) ts.length ts.length)
      have hmap : (ts.map q).length = ts.length := List.length_map _
      have hfs := Filled.forms (hs := hs) (us := ts.map q) (by rw [hmap]; exact hfill.out) hrow.out (by rw [hmap]; exact hlen.out)
      refine ⟨op, name, _, _, _, rfl, FormIn.mk (FormsIn.mono (FormsIn.kept hfs (fun i hi hl => h3.block i hl (fun e => by injection e with e; omega))) (fun i _ hi => by omega)) hmap.symm HOP.out HNM.out (by rw [hmap]; exact Nat.le_refl _) (by unfold maxLen; omega), below_of_row2 hbel.out h3 (by omega)⟩

theorem enters_clone : Enters 59 := enters_of Tryz.func59 (by kernel_rfl) rfl

/-- What is left when a made formula has been stored as a result in block R. -/
theorem FMade.stored {w w0 w2 : World} {R : Nat} {t : Tree} {o : Int} {s : ByteArray} {a : Option Addr} {n c : Nat} (h0 : Below w.heap.size w w0) (hR : w.heap.size ≤ R) (hR2 : R < w0.heap.size) (hf : FormIn w2 (fun i => w0.heap.size ≤ i) (.agg #[.int .i64 o, .string s, .slice a n c]) t) (hb : Below w0.heap.size w0 w2) :
    FMade w t (.returned (.agg #[.int .i64 o, .string s, .slice a n c])) (((w2.setCell ⟨R, 0, none⟩ (.int .i64 o)).setCell ⟨R, 1, none⟩ (.string s)).setCell ⟨R, 2, none⟩ (.slice a n c)) := by
  have h3 := set_three w2 R (.int .i64 o) (.string s) (.slice a n c)
  exact ⟨o, s, a, n, c, rfl, FormIn.mono (FormIn.kept hf fun i hi hl => h3.block i hl (fun e => by injection e with e; omega)) (fun i _ hi => Nat.le_trans h0.size hi), below_of_row2 (h0.trans (hb.mono h0.size)) h3 hR⟩

set_option maxRecDepth 100000 in
set_option maxHeartbeats 1000000 in
theorem clone_any : ∀ t : Tree, t.nodes ≤ 1000000 → ∀ (v : Value) (w : World), FormAt w none v t → Calls Tryz.prog 59 #[v] w (FMade w t) := by
  refine Tree.ind fun op name ts ih hn v w h => ?_
  obtain ⟨a, cp, b, off, rfl, -⟩ := h.form
  simp only [Tree.op_node, Tree.name_node, Tree.args_node]
  have hnodes : ∀ t ∈ ts, t.nodes ≤ 1000000 := fun t ht => by
    have := nodes_mem_le ht
    simp only [Tree.nodes] at hn
    omega
  have hl : ts.length ≤ 1000000 := by
    have := nodes_len_le ts
    simp only [Tree.nodes] at hn
    omega
  have HIH := hidIt (fun t ht => ih t ht (hnodes t ht))
  have HH := hidIt h
  clear ih h hnodes hn
  simp only [Tree.op_node, Tree.name_node, Tree.args_node] at HH
  go_enter Tryz.func59, Tryz.ntmps59
  go_wp2_with fail
  have HB0 : Hid (Below w.heap.size w ((w.alloc (.cells #[.int .i64 op, .string name, .slice a ts.length cp] 24)).alloc (.cells #[.int .i64 0, .string ⟨#[]⟩, .slice none 0 0] 24))) := ((Below.refl _ _).alloc (Nat.le_refl _) _).alloc (by simp) _
  have HY0 : Hid (((w.alloc (.cells #[.int .i64 op, .string name, .slice a ts.length cp] 24)).alloc (.cells #[.int .i64 0, .string ⟨#[]⟩, .slice none 0 0] 24)).heap[w.heap.size + 1]? = some (.cells #[.int .i64 0, .string ⟨#[]⟩, .slice none 0 0] 24 (0, 0))) := heap_alloc_at (by simp)
  refine (withArgs_any 59 #[] enters_clone id op name ts a cp hl _ (FormAt.go HH.out HB0.out) (fun t ht v w' _ hf => ?_)).mono ?_
  · exact HIH.out t ht v w' hf
  rintro e w2 ⟨ro, rs, ra, rn, rc, rfl, hf2, hb2⟩
  rw [List.map_id] at hf2
  have HF2 := hidIt hf2
  have HB2 := hidIt hb2
  have HY2 := hidIt (blk_kept HY0.out hb2)
  obtain ⟨y0, y1, y2⟩ := cell_of3 HY2.out
  obtain ⟨z0, z1, z2⟩ := cells_free HY2.out
  have hly := lt_of_block HY2.out
  clear hf2 hb2
  go_wp2_with fail
  refine bodyPost_ret (v := .agg #[.int .i64 ro, .string rs, .slice ra rn rc]) (by simp [results, Tryz.results59, go_sem, y0, y1, y2, hly]) rfl ?_
  exact FMade.stored HB0.out (by omega) (by simp) HF2.out HB2.out
end Go.Proofs.YtilkpjcbmllgmaaGreatDoor

namespace Go.Proofs.YtilkpjcbmllgmaaGreatDoor
set_option linter.unusedVariables false
set_option linter.unusedSimpArgs false
open Go.RowKit

mutual
/-- The formula with g in the place of the atom p. -/
def substT (p : ByteArray) (g : Tree) : Tree → Tree
  | .node op name ts => if op = 3 ∧ ts.length = 0 ∧ name = p then g else .node op name (substTs p g ts)
def substTs (p : ByteArray) (g : Tree) : List Tree → List Tree
  | [] => []
  | t :: ts => substT p g t :: substTs p g ts
end
theorem substTs_map (p : ByteArray) (g : Tree) : ∀ ts, substTs p g ts = ts.map (substT p g)
  | [] => rfl
  | t :: ts => by rw [substTs, substTs_map p g ts]; rfl
theorem substT_node (p : ByteArray) (g : Tree) (op : Int) (name : ByteArray) (ts : List Tree) : substT p g (.node op name ts) = if op = 3 ∧ ts.length = 0 ∧ name = p then g else .node op name (ts.map (substT p g)) := by
  rw [substT, substTs_map]

/-- The atoms that are true, with p's value turned to b. -/
def withP (yes : List ByteArray) (p : ByteArray) (b : Bool) : List ByteArray := (yes.filter fun x => x.data.toList != p.data.toList) ++ (if b then [p] else [])

theorem inB_with (yes : List ByteArray) (p : ByteArray) (b : Bool) (s : ByteArray) : inB (withP yes p b) s = if s = p then b else inB yes s := by
  have h1 : (yes.filter fun x => x.data.toList != p.data.toList).any (fun x => x.data.toList == s.data.toList) = if s = p then false else inB yes s := by
    induction yes with
    | nil => simp [inB]
    | cons x l ih =>
      by_cases hx : x = p
      · subst hx
        rw [List.filter_cons_of_neg (by simp), ih]
        by_cases hs : s = x
        · simp [hs]
        · have : (x.data.toList == s.data.toList) = false := by
            rw [Bool.eq_false_iff]
            intro e
            exact hs (bytes_inj (eq_of_beq e)).symm
          rw [if_neg hs, if_neg hs]
          unfold inB
          rw [List.any_cons, this, Bool.false_or]
      · have hne : (x.data.toList != p.data.toList) = true := by
          rw [bne_iff_ne]
          intro e
          exact hx (bytes_inj e)
        rw [List.filter_cons_of_pos (by simpa using hne), List.any_cons, ih]
        by_cases hs : s = p
        · subst hs
          simp only [if_true, Bool.or_false]
          rw [Bool.eq_false_iff]
          intro e
          exact hx (bytes_inj (eq_of_beq e))
        · simp [hs, inB]
  unfold inB withP
  rw [List.any_append, h1]
  by_cases hs : s = p
  · subst hs
    cases b <;> simp
  · have : (p.data.toList == s.data.toList) = false := by
      rw [Bool.eq_false_iff]
      intro e
      exact hs (bytes_inj (eq_of_beq e)).symm
    rw [if_neg hs, if_neg hs]
    cases b
    · simp [inB]
    · simp only [if_true, List.any_cons, this, List.any_nil, Bool.or_false]
      rfl

theorem allL_all {p : Tree → Bool} : ∀ {ts : List Tree}, allL p ts = true ↔ ∀ t ∈ ts, t.all p = true
  | [] => by simp [allL]
  | t :: ts => by simp [allL, allL_all (ts := ts)]

theorem wellF_mk {op : Int} {name : ByteArray} {ts : List Tree} (hk : kindB (.node op name ts) = true) (hn : nameB (.node op name ts) = true) (h : ∀ t ∈ ts, wellF t = true) : wellF (.node op name ts) = true := by
  show (kindB _ && nameB _ && allL _ ts) = true
  rw [hk, hn, allL_all.2 h]
  rfl
theorem wellF_parts {op : Int} {name : ByteArray} {ts : List Tree} (h : wellF (.node op name ts) = true) : kindB (.node op name ts) = true ∧ nameB (.node op name ts) = true ∧ ∀ t ∈ ts, wellF t = true := by
  have h1 : (kindB (.node op name ts) && nameB (.node op name ts) && allL (fun t => kindB t && nameB t) ts) = true := h
  simp only [Bool.and_eq_true] at h1
  exact ⟨h1.1.1, h1.1.2, allL_all.1 h1.2⟩

def kindN (op : Int) (n : Nat) : Bool :=
  if op = 1 ∨ op = 2 ∨ op = 3 then n == 0
  else if op = 4 then n == 1
  else if op = 5 ∨ op = 6 then decide (2 ≤ n ∧ n ≤ 6)
  else if op = 7 ∨ op = 8 then n == 2
  else false
theorem kindB_len {op : Int} {name : ByteArray} {ts us : List Tree} (h : ts.length = us.length) : kindB (.node op name us) = kindB (.node op name ts) := by
  have e : ∀ zs : List Tree, kindB (.node op name zs) = kindN op zs.length := fun _ => rfl
  rw [e, e, h]
theorem nameB_len {op : Int} {name : ByteArray} {ts us : List Tree} : nameB (.node op name us) = nameB (.node op name ts) := rfl

theorem subst_well (p : ByteArray) (g : Tree) (hg : wellF g = true) : ∀ t : Tree, wellF t = true → wellF (substT p g t) = true := by
  refine Tree.ind fun op name ts ih h => ?_
  obtain ⟨hk, hn, hts⟩ := wellF_parts h
  rw [substT_node]
  by_cases hc : op = 3 ∧ ts.length = 0 ∧ name = p
  · rw [if_pos hc]; exact hg
  · rw [if_neg hc]
    refine wellF_mk (by rw [kindB_len (ts := ts) (by simp)]; exact hk) (by rw [nameB_len (ts := ts)]; exact hn) fun t ht => ?_
    obtain ⟨u, hu, rfl⟩ := List.mem_map.1 ht
    exact ih u hu (hts u hu)

theorem subst_value (P : ByteArray → Bool) (p : ByteArray) (g : Tree) : ∀ t : Tree, wellF t = true → valueB P (substT p g t) = valueB (fun s => if s = p then valueB P g else P s) t := by
  refine Tree.ind fun op name ts ih h => ?_
  obtain ⟨hk, hn, hts⟩ := wellF_parts h
  rw [substT_node]
  have hmap : (ts.map (substT p g)).map (valueB P) = ts.map (valueB fun s => if s = p then valueB P g else P s) := by
    rw [List.map_map]
    refine List.map_congr_left fun t ht => ?_
    exact ih t ht (hts t ht)
  by_cases h3 : op = 3
  · subst h3
    have hl : ts.length = 0 := by
      unfold kindB at hk
      simp only [Tree.op_node, Tree.args_node] at hk
      simpa using hk
    by_cases hp : name = p
    · rw [if_pos ⟨rfl, hl, hp⟩]
      simp [valueB, hp]
    · rw [if_neg (fun hc => hp hc.2.2)]
      simp [valueB, hp]
  · rw [if_neg (fun hc => h3 hc.1)]
    have hop : op = 1 ∨ op = 2 ∨ op = 4 ∨ op = 5 ∨ op = 6 ∨ op = 7 ∨ op = 8 := by
      unfold kindB at hk
      simp only [Tree.op_node] at hk
      grind
    simp only [valueB, valuesB_map, hmap]
    rcases hop with rfl | rfl | rfl | rfl | rfl | rfl | rfl <;> rfl

theorem subst_eval (p : ByteArray) (f g : Tree) (yes : List ByteArray) (hf : wellF f = true) (hg : wellF g = true) : evalB (substT p g f) yes = evalB f (withP yes p (evalB g yes)) := by
  unfold evalB
  rw [subst_well p g hg f hf, hf, hg, Bool.true_and, Bool.true_and, Bool.true_and, subst_value (inB yes) p g f hf]
  congr 1
  funext s
  exact (inB_with yes p (valueB (inB yes) g) s).symm
end Go.Proofs.YtilkpjcbmllgmaaGreatDoor

namespace Go.Proofs.YtilkpjcbmllgmaaGreatDoor
set_option linter.unusedVariables false
set_option linter.unusedSimpArgs false
open Go Go.RowKit

/-- Does the formula count as an atom? -/
def atomB (t : Tree) : Bool := decide (t.op = 3) && decide (t.args.length = 0)

set_option maxHeartbeats 400000 in
theorem isAtom_any (t : Tree) (v : Value) (w : World) (h : FormAt w none v t) :
    Calls Tryz.prog 49 #[v] w fun e w' => e = .returned (.bool (atomB t)) ∧ Below w.heap.size w w' := by
  obtain ⟨a, cap, b, off, rfl, hop, hname, hlen, hcap, -, -⟩ := h.form
  unfold maxLen at hcap
  have HA : Hid (atomB t = (decide (t.op = 3) && decide (t.args.length = 0))) := rfl
  generalize t.op = op at *
  generalize t.name = name at *
  generalize t.args.length = n at *
  have HB : Hid (Below w.heap.size w (w.alloc (.cells #[.int .i64 op, .string name, .slice a n cap] 24))) := Grows.alloc _ _
  clear h
  by_cases ho : op = 3
  · subst ho
    by_cases hl : n = 0
    · subst hl
      go_enter Tryz.func49, Tryz.ntmps49
      go_wp2_with fail
      go_ret
      exact ⟨ret_bool (by rw [HA.out]; rfl), HB.out⟩
    · have hz : (((n : Int) == 0) : Bool) = false := by simp; omega
      go_enter Tryz.func49, Tryz.ntmps49
      go_wp2_with fail
      go_ret
      exact ⟨ret_bool (by rw [HA.out]; simp [hl]), HB.out⟩
  · have hz : ((op == 3) : Bool) = false := by simpa using ho
    go_enter Tryz.func49, Tryz.ntmps49
    go_wp2_with fail
    go_ret
    exact ⟨ret_bool (by rw [HA.out]; simp [ho]), HB.out⟩

theorem enters_subst1 : Enters 61 := enters_of Tryz.func61 (by kernel_rfl) rfl

/-- What Substitute answers at t. -/
def SubstOk (p : ByteArray) (g : Tree) (t : Tree) : Prop := ∀ (v vg : Value) (w : World), FormAt w none v t → FormAt w none vg g → Calls Tryz.prog 19 #[v, .string p, vg] w (FMade w (substT p g t))

set_option maxRecDepth 100000 in
set_option maxHeartbeats 1000000 in
theorem subst1_any (p : ByteArray) (g t : Tree) (ht : SubstOk p g t) (v : Value) (w : World) (hv : FormAt w none v t) (pn pg : Nat) {o : Int} {s : ByteArray} {a : Option Addr} {n c : Nat} (hpn : w.heap[pn]? = some (.cells #[.string p] 9 (0, 0))) (hpg : w.heap[pg]? = some (.cells #[.int .i64 o, .string s, .slice a n c] 24 (0, 0)))
    (hg : FormAt w none (.agg #[.int .i64 o, .string s, .slice a n c]) g) :
    Calls Tryz.prog 61 #[v, .pointer (some ⟨pn, 0, none⟩), .pointer (some ⟨pg, 0, none⟩)] w (FMade w (substT p g t)) := by
  have HV0 := hidIt hv
  obtain ⟨a', cap, b, off, rfl, -⟩ := hv.form
  have HT := hidIt ht
  have HG := hidIt hg
  generalize t.op = op at *
  generalize t.name = name at *
  generalize t.args.length = m at *
  have HB0 : Hid (Below w.heap.size w ((w.alloc (.cells #[.int .i64 op, .string name, .slice a' m cap] 24)).alloc (.cells #[.int .i64 0, .string ⟨#[]⟩, .slice none 0 0] 24))) := ((Below.refl _ _).alloc (Nat.le_refl _) _).alloc (by simp) _
  have HY0 : Hid (((w.alloc (.cells #[.int .i64 op, .string name, .slice a' m cap] 24)).alloc (.cells #[.int .i64 0, .string ⟨#[]⟩, .slice none 0 0] 24)).heap[w.heap.size + 1]? = some (.cells #[.int .i64 0, .string ⟨#[]⟩, .slice none 0 0] 24 (0, 0))) := heap_alloc_at (by simp)
  have hlpn := lt_of_block hpn
  have hlpg := lt_of_block hpg
  have n0 := cell_one0 (blk_kept hpn HB0.out)
  obtain ⟨g0, g1, g2⟩ := cell_of3 (blk_kept hpg HB0.out)
  clear hv ht hg hpn hpg
  go_enter Tryz.func61, Tryz.ntmps61
  go_wp2_with fail
  refine (HT.out _ _ _ (FormAt.go HV0.out HB0.out) (FormAt.go HG.out HB0.out)).mono ?_
  rintro e w2 ⟨ro, rs, ra, rn, rc, rfl, hf2, hb2⟩
  have HF2 := hidIt hf2
  have HB2 := hidIt hb2
  have HY2 := hidIt (blk_kept HY0.out hb2)
  obtain ⟨y0, y1, y2⟩ := cell_of3 HY2.out
  obtain ⟨z0, z1, z2⟩ := cells_free HY2.out
  have hly := lt_of_block HY2.out
  clear hf2 hb2
  go_wp2_with fail
  refine bodyPost_ret (v := .agg #[.int .i64 ro, .string rs, .slice ra rn rc]) (by simp [results, Tryz.results61, go_sem, y0, y1, y2, hly]) rfl ?_
  exact FMade.stored HB0.out (by omega) (by simp) HF2.out HB2.out

set_option maxRecDepth 100000 in
set_option maxHeartbeats 2000000 in
theorem subst_any (p : ByteArray) (g : Tree) (hgn : g.nodes ≤ 1000000) : ∀ t : Tree, t.nodes ≤ 1000000 → SubstOk p g t := by
  refine Tree.ind fun op name ts ih hn v vg w h hg => ?_
  obtain ⟨a, cp, b, off, rfl, -⟩ := h.form
  obtain ⟨ga, gc, gb, goff, rfl, -⟩ := hg.form
  simp only [Tree.op_node, Tree.name_node, Tree.args_node] at *
  have hnodes : ∀ t ∈ ts, t.nodes ≤ 1000000 := fun t ht => by
    have := nodes_mem_le ht
    simp only [Tree.nodes] at hn
    omega
  have hl : ts.length ≤ 1000000 := by
    have := nodes_len_le ts
    simp only [Tree.nodes] at hn
    omega
  have HIH : Hid (∀ t ∈ ts, SubstOk p g t) := fun t ht => ih t ht (hnodes t ht)
  have HH := hidIt h
  have HG := hidIt hg
  have HGN := hidIt hgn
  have HST := hidIt (substT_node p g op name ts)
  have HAT : Hid (atomB (.node op name ts) = (decide (op = 3) && decide (ts.length = 0))) := rfl
  generalize g.op = go at *
  generalize g.name = gs at *
  generalize g.args.length = gn at *
  clear ih h hg hnodes hn hgn
  go_enter Tryz.func19, Tryz.ntmps19
  go_wp2_with fail
  have HB0 : Hid (Below w.heap.size w ((((w.alloc (.cells #[.int .i64 op, .string name, .slice a ts.length cp] 24)).alloc (.cells #[.string p] 9)).alloc (.cells #[.int .i64 go, .string gs, .slice ga gn gc] 24)).alloc (.cells #[.int .i64 0, .string ⟨#[]⟩, .slice none 0 0] 24))) := ((((Below.refl _ _).alloc (Nat.le_refl _) _).alloc (by simp) _).alloc (by simp; omega) _).alloc (by simp; omega) _
  have HX0 : Hid (((((w.alloc (.cells #[.int .i64 op, .string name, .slice a ts.length cp] 24)).alloc (.cells #[.string p] 9)).alloc (.cells #[.int .i64 go, .string gs, .slice ga gn gc] 24)).alloc (.cells #[.int .i64 0, .string ⟨#[]⟩, .slice none 0 0] 24)).heap[w.heap.size]? = some (.cells #[.int .i64 op, .string name, .slice a ts.length cp] 24 (0, 0))) := blk_kept (blk_kept (blk_kept (heap_alloc_new w _) (Grows.alloc _ _)) (Grows.alloc _ _)) (Grows.alloc _ _)
  have HN0 : Hid (((((w.alloc (.cells #[.int .i64 op, .string name, .slice a ts.length cp] 24)).alloc (.cells #[.string p] 9)).alloc (.cells #[.int .i64 go, .string gs, .slice ga gn gc] 24)).alloc (.cells #[.int .i64 0, .string ⟨#[]⟩, .slice none 0 0] 24)).heap[w.heap.size + 1]? = some (.cells #[.string p] 9 (0, 0))) := blk_kept (blk_kept (heap_alloc_at (by simp)) (Grows.alloc _ _)) (Grows.alloc _ _)
  have HV0 : Hid (((((w.alloc (.cells #[.int .i64 op, .string name, .slice a ts.length cp] 24)).alloc (.cells #[.string p] 9)).alloc (.cells #[.int .i64 go, .string gs, .slice ga gn gc] 24)).alloc (.cells #[.int .i64 0, .string ⟨#[]⟩, .slice none 0 0] 24)).heap[w.heap.size + 1 + 1]? = some (.cells #[.int .i64 go, .string gs, .slice ga gn gc] 24 (0, 0))) := blk_kept (heap_alloc_at (by simp)) (Grows.alloc _ _)
  have HY0 : Hid (((((w.alloc (.cells #[.int .i64 op, .string name, .slice a ts.length cp] 24)).alloc (.cells #[.string p] 9)).alloc (.cells #[.int .i64 go, .string gs, .slice ga gn gc] 24)).alloc (.cells #[.int .i64 0, .string ⟨#[]⟩, .slice none 0 0] 24)).heap[w.heap.size + 1 + 1 + 1]? = some (.cells #[.int .i64 0, .string ⟨#[]⟩, .slice none 0 0] 24 (0, 0))) := heap_alloc_at (by simp)
  have hsz0 : w.heap.size + 1 + 1 + 1 < ((((w.alloc (.cells #[.int .i64 op, .string name, .slice a ts.length cp] 24)).alloc (.cells #[.string p] 9)).alloc (.cells #[.int .i64 go, .string gs, .slice ga gn gc] 24)).alloc (.cells #[.int .i64 0, .string ⟨#[]⟩, .slice none 0 0] 24)).heap.size := by simp
  generalize ((((w.alloc (.cells #[.int .i64 op, .string name, .slice a ts.length cp] 24)).alloc (.cells #[.string p] 9)).alloc (.cells #[.int .i64 go, .string gs, .slice ga gn gc] 24)).alloc (.cells #[.int .i64 0, .string ⟨#[]⟩, .slice none 0 0] 24)) = W0 at *
  refine (isAtom_any _ _ W0 (FormAt.go HH.out HB0.out)).mono ?_
  rintro e w2 ⟨rfl, hb2⟩
  have HB2 := hidIt (HB0.out.trans (hb2.mono HB0.out.size))
  have HX2 := hidIt (blk_kept HX0.out hb2)
  have HN2 := hidIt (blk_kept HN0.out hb2)
  have HV2 := hidIt (blk_kept HV0.out hb2)
  have HY2 := hidIt (blk_kept HY0.out hb2)
  have HF2 := hidIt (FormAt.go HH.out HB2.out)
  have HG2 := hidIt (FormAt.go HG.out HB2.out)
  have hsz2 : w.heap.size + 1 + 1 + 1 < w2.heap.size := Nat.lt_of_lt_of_le hsz0 hb2.size
  obtain ⟨x0, x1, x2⟩ := cell_of3 HX2.out
  have n0 := cell_one0 HN2.out
  obtain ⟨v0, v1, v2⟩ := cell_of3 HV2.out
  obtain ⟨y0, y1, y2⟩ := cell_of3 HY2.out
  obtain ⟨z0, z1, z2⟩ := cells_free HY2.out
  have hlx := lt_of_block HX2.out
  have hln := lt_of_block HN2.out
  have hlv := lt_of_block HV2.out
  have hly := lt_of_block HY2.out
  clear HX0 HN0 HV0 HY0 hb2 HB0 HH HG
  cases hat : atomB (.node op name ts)
  · have HC : Hid (¬ (op = 3 ∧ ts.length = 0 ∧ name = p)) := fun hc => by
      rw [hat] at HAT
      have := HAT.out
      rw [hc.1, hc.2.1] at this
      cases this
    clear hat HAT
    go_wp2_with fail
    refine (withArgs_any 61 #[.pointer (some ⟨w.heap.size + 1, 0, none⟩), .pointer (some ⟨w.heap.size + 1 + 1, 0, none⟩)] enters_subst1 (substT p g) op name ts a cp hl w2 HF2.out (fun t ht v w' hb hf => ?_)).mono ?_
    · exact subst1_any p g t (HIH.out t ht) v w' hf _ _ (blk_kept HN2.out hb) (blk_kept HV2.out hb) (FormAt.go HG2.out hb)
    rintro e w3 ⟨ro, rs, ra, rn, rc, rfl, hf3, hb3⟩
    have HF3 := hidIt hf3
    have HB3 := hidIt hb3
    have HY3 := hidIt (blk_kept HY2.out hb3)
    have hne : Hid (substT p g (.node op name ts) = .node op name (ts.map (substT p g))) := by show _ = _; rw [HST.out, if_neg HC.out]
    clear hf3 hb3 x0 x1 x2 n0 v0 v1 v2 y0 y1 y2 z0 z1 z2 hly
    obtain ⟨y0, y1, y2⟩ := cell_of3 HY3.out
    obtain ⟨z0, z1, z2⟩ := cells_free HY3.out
    have hly := lt_of_block HY3.out
    go_wp2_with fail
    refine bodyPost_ret (v := .agg #[.int .i64 ro, .string rs, .slice ra rn rc]) (by simp [results, Tryz.results19, go_sem, y0, y1, y2, hly]) rfl ?_
    rw [hne.out]
    exact FMade.stored HB2.out (by omega) hsz2 HF3.out HB3.out
  · have HC : Hid (op = 3 ∧ ts.length = 0) := by
      have := HAT.out
      rw [hat] at this
      have h2 := this.symm
      rw [Bool.and_eq_true, decide_eq_true_eq, decide_eq_true_eq] at h2
      exact h2
    clear hat HAT
    cases hs : (name.toList == p.toList)
    · have HS : Hid (¬ (op = 3 ∧ ts.length = 0 ∧ name = p)) := fun hc => by
        rw [hc.2.2] at hs
        simp at hs
      go_wp2_with fail
      refine (withArgs_any 61 #[.pointer (some ⟨w.heap.size + 1, 0, none⟩), .pointer (some ⟨w.heap.size + 1 + 1, 0, none⟩)] enters_subst1 (substT p g) op name ts a cp hl w2 HF2.out (fun t ht v w' hb hf => ?_)).mono ?_
      · exact subst1_any p g t (HIH.out t ht) v w' hf _ _ (blk_kept HN2.out hb) (blk_kept HV2.out hb) (FormAt.go HG2.out hb)
      rintro e w3 ⟨ro, rs, ra, rn, rc, rfl, hf3, hb3⟩
      have HF3 := hidIt hf3
      have HB3 := hidIt hb3
      have HY3 := hidIt (blk_kept HY2.out hb3)
      have hne : Hid (substT p g (.node op name ts) = .node op name (ts.map (substT p g))) := by show _ = _; rw [HST.out, if_neg HS.out]
      clear hf3 hb3 x0 x1 x2 n0 v0 v1 v2 y0 y1 y2 z0 z1 z2 hly
      obtain ⟨y0, y1, y2⟩ := cell_of3 HY3.out
      obtain ⟨z0, z1, z2⟩ := cells_free HY3.out
      have hly := lt_of_block HY3.out
      go_wp2_with fail
      refine bodyPost_ret (v := .agg #[.int .i64 ro, .string rs, .slice ra rn rc]) (by simp [results, Tryz.results19, go_sem, y0, y1, y2, hly]) rfl ?_
      rw [hne.out]
      exact FMade.stored HB2.out (by omega) hsz2 HF3.out HB3.out
    · have HS : Hid (substT p g (.node op name ts) = g) := by
        have h1 := eq_of_beq hs
        rw [Lib.toList_data, Lib.toList_data] at h1
        have h2 : name = p := bytes_inj h1
        show _ = _
        rw [HST.out, if_pos ⟨HC.out.1, HC.out.2, h2⟩]
      go_wp2_with fail
      refine (clone_any g HGN.out _ w2 HG2.out).mono ?_
      rintro e w3 ⟨ro, rs, ra, rn, rc, rfl, hf3, hb3⟩
      have HF3 := hidIt hf3
      have HB3 := hidIt hb3
      have HY3 := hidIt (blk_kept HY2.out hb3)
      clear hf3 hb3 x0 x1 x2 n0 v0 v1 v2 y0 y1 y2 z0 z1 z2 hly
      obtain ⟨y0, y1, y2⟩ := cell_of3 HY3.out
      obtain ⟨z0, z1, z2⟩ := cells_free HY3.out
      have hly := lt_of_block HY3.out
      go_wp2_with fail
      refine bodyPost_ret (v := .agg #[.int .i64 ro, .string rs, .slice ra rn rc]) (by simp [results, Tryz.results19, go_sem, y0, y1, y2, hly]) rfl ?_
      rw [HS.out]
      exact FMade.stored HB2.out (by omega) hsz2 HF3.out HB3.out
end Go.Proofs.YtilkpjcbmllgmaaGreatDoor

namespace Go.Proofs.YtilkpjcbmllgmaaGreatDoor
set_option linter.unusedVariables false
set_option linter.unusedSimpArgs false
open Go Go.RowKit Go.Shelf

attribute [local go_sem] Oper.semAt_some

/-- The names of those nodes that count as atoms. -/
def atomKs (ks : List (Int × ByteArray × Nat)) : List ByteArray := (ks.filter fun k => decide (k.1 = 3) && decide (k.2.2 = 0)).map fun k => k.2.1
/-- A formula's atoms. -/
def atomsT (t : Tree) : List ByteArray := ascOf (atomKs (keysT t))

theorem atomKs_snoc (ks : List (Int × ByteArray × Nat)) (k : Int × ByteArray × Nat) : atomKs (ks ++ [k]) = if k.1 = 3 ∧ k.2.2 = 0 then atomKs ks ++ [k.2.1] else atomKs ks := by
  unfold atomKs
  rw [List.filter_append, List.map_append]
  by_cases h : k.1 = 3 ∧ k.2.2 = 0
  · rw [if_pos h, List.filter_cons_of_pos (by simp [h.1, h.2])]
    rfl
  · rw [if_neg h, List.filter_cons_of_neg (by simpa using h)]
    simp

theorem atomKs_len (ks : List (Int × ByteArray × Nat)) : (atomKs ks).length ≤ ks.length := by
  unfold atomKs
  rw [List.length_map]
  exact List.length_filter_le _ _

set_option maxHeartbeats 1000000 in
/-- The iterator. -/
theorem nodes1_in (n : Nat) (l Bf : Nat) (t : Tree) (v : Value) (J Jx : List Nd → World → Prop) (hJA : ∀ pre W o, J pre W → J pre (W.alloc o))
    (hY : ∀ pre (x : Nd) W, J pre W → pre.length < t.nodes → YieldAt Fence.wide (n - 1) Tryz.prog l #[x.val] W fun e W' =>
      (e = .returned (.bool true) ∧ J (pre ++ [x]) W' ∧ CK W W') ∨ (e = .returned (.bool false) ∧ Jx (pre ++ [x]) W'))
    {o : Int} {s : ByteArray} {a : Option Addr} {m c : Nat} (hv : v = .agg #[.int .i64 o, .string s, .slice a m c])
    (W : World) (hB : W.heap[Bf]? = some (.cells #[.int .i64 o, .string s, .slice a m c] 24 (0, 0))) (hT : FormAt W none v t) (h0 : J [] W) :
    CallsIn Fence.wide n Tryz.prog 86 #[.func (.yield l) #[] #[], .pointer (some ⟨Bf, 0, none⟩)] W fun e W' => (∃ v, e = .returned v) ∧
      ((∃ ys : List Nd, ys.map Nd.key = keysT t ∧ J ys W') ∨ (∃ pre : List Nd, True ∧ Jx pre W')) := by
  have hp := every_in l t.nodes J Jx hJA (fun m pre x W hj hl => yieldAt_any m (hY pre x W hj hl)) t (n - 1) v [] W hT h0 (by simp)
  subst hv
  obtain ⟨p0, p1, p2⟩ := cell_of3 hB
  have hlt := lt_of_block hB
  have HP := hidIt hp
  clear hp hY hJA hT hB
  refine callsIn_of_wp Tryz.func86 rfl trivial ?_ rfl
  simp only [Tryz.ntmps86, List.size_toArray, List.length_cons, List.length_nil, Nat.reduceAdd, Nat.reduceSub, Array.replicate_succ, Array.replicate_zero, List.push_toArray, List.append_toArray, List.nil_append, List.cons_append]
  gi_wp2_with fail
  refine ⟨trivial, fun h => (by cases h), HP.out.mono ?_⟩
  rintro e W1 (⟨rfl, ys, hys, hJ1, -⟩ | ⟨rfl, q, hx⟩)
  · gi_wp2_with fail
    go_end0
    exact ⟨⟨_, rfl⟩, .inl ⟨ys, hys, by simpa using hJ1⟩⟩
  · gi_wp2_with fail
    go_end0
    exact ⟨⟨_, rfl⟩, .inr ⟨q, trivial, hx⟩⟩

set_option maxHeartbeats 400000 in
theorem nodes_in (n : Nat) (w : World) {o : Int} {s : ByteArray} {a : Option Addr} {m c : Nat} :
    CallsIn Fence.wide n Tryz.prog 48 #[.agg #[.int .i64 o, .string s, .slice a m c]] w fun e w' => e = .returned (.func (.func 86) #[] #[.pointer (some ⟨w.heap.size, 0, none⟩)]) ∧ w' = w.alloc (.cells #[.int .i64 o, .string s, .slice a m c] 24) := by
  refine callsIn_of_wp Tryz.func48 rfl trivial ?_ rfl
  simp only [Tryz.ntmps48, List.size_toArray, List.length_cons, List.length_nil, Nat.reduceAdd, Nat.reduceSub, Array.replicate_succ, Array.replicate_zero, List.push_toArray, List.append_toArray, List.nil_append, List.cons_append]
  gi_wp2_with fail
  go_ret
  exact ⟨rfl, rfl⟩

theorem nodes_stops (n : Nat) (Bf : Nat) (t : Tree) {o : Int} {s : ByteArray} {a : Option Addr} {m c : Nat} (w : World) (hB : w.heap[Bf]? = some (.cells #[.int .i64 o, .string s, .slice a m c] 24 (0, 0)))
    (hT : FormAt w none (.agg #[.int .i64 o, .string s, .slice a m c]) t) :
    SeqStopsK Fence.wide n Tryz.prog 86 #[.pointer (some ⟨Bf, 0, none⟩)] (fun x : Nd => #[x.val]) CK (fun ys => ys.map Nd.key = keysT t) (fun _ => True) t.nodes w := fun l J Jx W hW hJ _ hY h0 =>
  nodes1_in n l Bf t _ J Jx (fun pre A o hj => hJ pre A (A.alloc o) none hj (World.grownBy_alloc A o none) (fun r e => by cases e)) hY rfl W (blk_kept hB hW) (hT.go hW) h0

theorem OwnS.base {w : World} {B B' : Nat} {v : Value} {l : List ByteArray} (h : OwnS w B v l) (hb : B' ≤ B) : OwnS w B' v l := ⟨ownsRow_base_a h.1 hb, h.2⟩

/-- What the loop of Atoms keeps: the map of names. -/
def AtomI (w : World) (B0 p bm : Nat) (pre : List Nd) (W : World) : Prop :=
  W.heap[p]? = some (.cells #[.map (some bm)] 66 (0, 0)) ∧ SetAt W bm (atomKs (pre.map Nd.key)) ∧ Below w.heap.size w W ∧ B0 ≤ W.heap.size

theorem AtomI.own {w : World} {p bm B B0 : Nat} (hw : w.heap.size ≤ B) (hb : bm < B) : OwnFrom B (AtomI w B0 p bm) := by
  rintro s A A' row ⟨h1, h2, h3, h4⟩ hg hr
  have hp : row ≠ some p := fun e => by
    obtain ⟨-, o, ho, hc⟩ := hr p e
    rw [h1] at ho
    injection ho with ho
    subst ho
    cases hc
  refine ⟨?_, h2.kept hg (fun e => by have := (hr _ e).1; omega), h3.grown hg h3.size (fun k e => Nat.le_trans hw (hr k e).1), Nat.le_trans h4 hg.size⟩
  rw [hg.block p (lt_of_block h1) (fun e => hp e.symm)]
  exact h1

/-- A round's box. -/
def AtomX (B : Nat) (tm : Nat → Value → Array Value) (x : Nd) (a : Act) (W : World) : Prop :=
  ∃ q, B ≤ q ∧ W.heap[q]? = some (.cells #[.int .i64 x.op, .string x.name, .slice x.a x.n x.c] 24 (0, 0)) ∧ a = { tmps := tm q x.val, defers := [] }

theorem AtomX.own {B : Nat} {tm : Nat → Value → Array Value} (x : Nd) (a : Act) : OwnFrom B (fun (_ : Unit) W => AtomX B tm x a W) := by
  rintro s A A' row ⟨q, h1, h2, h3⟩ hg hr
  refine ⟨q, h1, ?_, h3⟩
  rw [hg.block q (lt_of_block h2) (fun e => ?_)]
  · exact h2
  · obtain ⟨-, o, ho, hc⟩ := hr q e.symm
    rw [h2] at ho
    injection ho with ho
    subst ho
    cases hc

set_option maxHeartbeats 400000 in
theorem isAtom_nd (op : Int) (name : ByteArray) (a : Option Addr) (n cap : Nat) (hcap : cap ≤ maxLen) (w : World) :
    Calls Tryz.prog 49 #[.agg #[.int .i64 op, .string name, .slice a n cap]] w fun e w' => e = .returned (.bool (decide (op = 3) && decide (n = 0))) ∧ Below w.heap.size w w' := by
  unfold maxLen at hcap
  have HB : Hid (Below w.heap.size w (w.alloc (.cells #[.int .i64 op, .string name, .slice a n cap] 24))) := Grows.alloc _ _
  by_cases ho : op = 3
  · subst ho
    by_cases hl : n = 0
    · subst hl
      go_enter Tryz.func49, Tryz.ntmps49
      go_wp2_with fail
      go_ret
      exact ⟨rfl, HB.out⟩
    · have hz : (((n : Int) == 0) : Bool) = false := by simp; omega
      go_enter Tryz.func49, Tryz.ntmps49
      go_wp2_with fail
      go_ret
      exact ⟨ret_bool (by simp [hl]), HB.out⟩
  · have hz : ((op == 3) : Bool) = false := by simpa using ho
    go_enter Tryz.func49, Tryz.ntmps49
    go_wp2_with fail
    go_ret
    exact ⟨ret_bool (by simp [ho]), HB.out⟩

set_option maxRecDepth 100000 in
set_option maxHeartbeats 2000000 in
theorem atoms_any (t : Tree) (hn : t.nodes ≤ 1000000) (v : Value) (w : World) (h : FormAt w none v t) :
    Calls Tryz.prog 12 #[v] w fun e w' => ∃ u : Value, e = .returned u ∧ OwnS w' w.heap.size u (atomsT t) ∧ Below w.heap.size w w' := by
  obtain ⟨a, cap, b, off, rfl, hop, hname, hlen, hcap, -, -⟩ := h.form
  have H := hidIt h
  have hmm := @run_makeMap Tryz.prog
  have HN := hidIt hn
  clear h hn
  refine (callsIn_wide (n := 8)).1 ?_
  refine callsIn_of_wp_marks Tryz.func12 rfl trivial ?_ rfl
  simp only [Tryz.ntmps12, List.size_toArray, List.length_cons, List.length_nil, Nat.reduceAdd, Nat.reduceSub, Array.replicate_succ, Array.replicate_zero, List.push_toArray, List.append_toArray, List.nil_append, List.cons_append]
  gi_wp2_with fail
  refine ⟨trivial, (nodes_in 7 _).mono ?_⟩
  rintro e w' ⟨rfl, rfl⟩
  gi_wp2_with fail
  have hB0 : Below w.heap.size w ((((w.alloc (.cells #[.int .i64 t.op, .string t.name, .slice a t.args.length cap] 24)).alloc (.map #[] 0)).alloc (.cells #[.map (some (w.heap.size + 1))] 66)).alloc (.cells #[.int .i64 t.op, .string t.name, .slice a t.args.length cap] 24)) :=
    ((((Below.refl _ _).alloc (Nat.le_refl _) _).alloc (by simp) _).alloc (by simp; omega) _).alloc (by simp; omega) _
  have hsz : ((((w.alloc (.cells #[.int .i64 t.op, .string t.name, .slice a t.args.length cap] 24)).alloc (.map #[] 0)).alloc (.cells #[.map (some (w.heap.size + 1))] 66)).alloc (.cells #[.int .i64 t.op, .string t.name, .slice a t.args.length cap] 24)).heap.size = w.heap.size + 4 := by simp
  have hbf := heap_alloc_at (w := ((w.alloc (.cells #[.int .i64 t.op, .string t.name, .slice a t.args.length cap] 24)).alloc (.map #[] 0)).alloc (.cells #[.map (some (w.heap.size + 1))] 66)) (o := .cells #[.int .i64 t.op, .string t.name, .slice a t.args.length cap] 24) (n := w.heap.size + 3) (by simp)
  have hbp : ((((w.alloc (.cells #[.int .i64 t.op, .string t.name, .slice a t.args.length cap] 24)).alloc (.map #[] 0)).alloc (.cells #[.map (some (w.heap.size + 1))] 66)).alloc (.cells #[.int .i64 t.op, .string t.name, .slice a t.args.length cap] 24)).heap[w.heap.size + 2]? = some (.cells #[.map (some (w.heap.size + 1))] 66 (0, 0)) :=
    blk_kept (heap_alloc_at (by simp)) (Grows.alloc _ _)
  have hset : SetAt ((((w.alloc (.cells #[.int .i64 t.op, .string t.name, .slice a t.args.length cap] 24)).alloc (.map #[] 0)).alloc (.cells #[.map (some (w.heap.size + 1))] 66)).alloc (.cells #[.int .i64 t.op, .string t.name, .slice a t.args.length cap] 24)) (w.heap.size + 1) [] := by
    have h1 := SetAt.made (w.alloc (.cells #[.int .i64 t.op, .string t.name, .slice a t.args.length cap] 24))
    have h2 : (w.alloc (.cells #[.int .i64 t.op, .string t.name, .slice a t.args.length cap] 24)).heap.size = w.heap.size + 1 := by simp
    rw [h2] at h1
    exact (h1.go (Grows.alloc _ _)).go (Grows.alloc _ _)
  have e1 : w.heap.size + 1 + 1 = w.heap.size + 2 := rfl
  have e2 : w.heap.size + 1 + 1 + 1 = w.heap.size + 3 := rfl
  rw [e2, e1]
  clear e1 e2
  have HF0 := hidIt (H.out.go hB0)
  generalize ((((w.alloc (.cells #[.int .i64 t.op, .string t.name, .slice a t.args.length cap] 24)).alloc (.map #[] 0)).alloc (.cells #[.map (some (w.heap.size + 1))] 66)).alloc (.cells #[.int .i64 t.op, .string t.name, .slice a t.args.length cap] 24)) = W0 at *
  refine wpIn_rangeFunc_ownH rfl (by omega) (gf := 86) (lb := #[.pointer (some ⟨w.heap.size + 3, 0, none⟩)]) rfl trivial (enters_of Tryz.func86 (by kernel_rfl) rfl)
    (nodes_stops 7 (w.heap.size + 3) t W0 hbf HF0.out) CK.trans (fun W l o o' _ hl ho _ => CK.putObj o' hl ho) (Below.refl _ _) (fun _ => rfl)
    (AtomI w W0.heap.size (w.heap.size + 2) (w.heap.size + 1)) (fun _ _ _ => False) (AtomI.own (by omega) (by omega)) (fun _ _ _ _ _ hs _ _ => hs) ⟨hbp, hset, hB0, Nat.le_refl _⟩
    (AtomX W0.heap.size fun q xv => #[.agg #[.int .i64 t.op, .string t.name, .slice a t.args.length cap], .pointer (some ⟨w.heap.size, 0, none⟩), .slice none 0 0, .pointer (some ⟨w.heap.size + 2, 0, none⟩), .pointer (some ⟨q, 0, none⟩), .map (some (w.heap.size + 1)),
      .agg #[.int .i64 t.op, .string t.name, .slice a t.args.length cap], .func (.func 86) #[] #[.pointer (some ⟨w.heap.size + 3, 0, none⟩)], xv, undef, undef, undef, undef, undef, undef, undef, undef]) (AtomX.own) ?assign ?body ?done ?stop
  case assign =>
    rintro l pre x W K ⟨i1, i2, i3, i4⟩ hK
    have hxv : x.val = .agg #[.int .i64 x.op, .string x.name, .slice x.a x.n x.c] := rfl
    rw [hxv]
    gi_wp2_with fail
    refine hK _ _ ((KeepsOthers.alloc _ _).from _) (CK.alloc _ _) ⟨blk_kept i1 (Grows.alloc _ _), i2.go (Grows.alloc _ _), i3.alloc i3.size _, by simp; omega⟩ ⟨W.heap.size, i4, heap_alloc_new W _, rfl⟩
  case body =>
    rintro l pre x a' W hl ⟨r, hr⟩ ⟨i1, i2, i3, i4⟩ ⟨q, hq1, hq2, rfl⟩ hlt
    obtain ⟨c0, c1, c2⟩ := cell_of3 hq2
    have d0 := cell_of1 i1
    have hatom := isAtom_nd x.op x.name x.a x.n x.c x.hc W
    have HI2 := hidIt i2
    have HI3 := hidIt i3
    have HQ2 := hidIt hq2
    have HI1 := hidIt i1
    have HLEN : Hid ((atomKs (pre.map Nd.key)).length ≤ 1000000) := by
      have h1 := atomKs_len (pre.map Nd.key)
      have h2 := HN.out
      rw [List.length_map] at h1
      show _ ≤ _
      omega
    have HS : Hid (atomKs ((pre ++ [x]).map Nd.key) = if x.op = 3 ∧ x.n = 0 then atomKs (pre.map Nd.key) ++ [x.name] else atomKs (pre.map Nd.key)) := by
      show _ = _
      rw [List.map_append, List.map_singleton, atomKs_snoc]
      rfl
    have HBM : Hid (w.heap.size + 1 < W0.heap.size) := by show _ < _; omega
    clear hB0 hbf hbp hset i1 i2 i3 hq2 hlt hr
    by_cases ht : x.op = 3 ∧ x.n = 0
    · rw [if_pos ht] at HS
      have hE : (decide (x.op = 3) && decide (x.n = 0)) = true := by simp [ht.1, ht.2]
      rw [hE] at hatom
      have HAT := hidIt hatom
      have HNM := hidIt x.hname
      clear hatom hE ht
      gi_wp2_with fail
      refine ⟨trivial, (CallsIn.inRound l (callsIn_wide.2 HAT.out)).mono ?_⟩
      rintro e W1 ⟨rfl, hb1⟩
      clear c0 c1 c2 d0
      obtain ⟨c0, c1, c2⟩ := cell_of3 (blk_kept HQ2.out hb1)
      have d0 := cell_of1 (blk_kept HI1.out hb1)
      obtain ⟨w3, hrun, hset3, hg3⟩ := (HI2.out.go hb1).put x.name HNM.out (by have := HLEN.out; omega)
      have HSET3 := hidIt hset3
      have HG3 := hidIt hg3
      have HB1 := hidIt hb1
      clear hset3 hg3 hb1
      gi_wp2_with fail
      obtain ⟨es, ck, hh, -⟩ := (HI2.out.go HB1.out).choose_spec.2
      refine ⟨(KeepsFrom.of_grownBy (only_of_below HB1.out none) (fun j e => by cases e)).trans (KeepsFrom.of_grownBy HG3.out (fun j e => by injection e with e; rw [← e]; exact HBM.out)), (CK.of_below HB1.out).trans (CK.of_grown HG3.out hh rfl), ?_, by rw [HS.out]; exact HSET3.out, ?_, Nat.le_trans i4 (Nat.le_trans HB1.out.size HG3.out.size)⟩
      · rw [HG3.out.block _ (lt_of_block (blk_kept HI1.out HB1.out)) (fun e => by injection e with e; omega)]
        exact blk_kept HI1.out HB1.out
      · exact (HI3.out.trans (Below.mono HB1.out HI3.out.size)).grown HG3.out (Nat.le_trans HI3.out.size HB1.out.size) (fun k e => by injection e with e; omega)
    · rw [if_neg ht] at HS
      have hE : (decide (x.op = 3) && decide (x.n = 0)) = false := by
        rw [Bool.and_eq_false_iff, decide_eq_false_iff_not, decide_eq_false_iff_not]
        by_cases h1 : x.op = 3
        · exact .inr fun h2 => ht ⟨h1, h2⟩
        · exact .inl h1
      rw [hE] at hatom
      have HAT := hidIt hatom
      clear hatom hE ht
      gi_wp2_with fail
      refine ⟨trivial, (CallsIn.inRound l (callsIn_wide.2 HAT.out)).mono ?_⟩
      rintro e W1 ⟨rfl, hb1⟩
      have HB1 := hidIt hb1
      clear hb1
      gi_wp2_with fail
      exact ⟨KeepsFrom.of_grownBy (only_of_below HB1.out none) (fun j e => by cases e), CK.of_below HB1.out, blk_kept HI1.out HB1.out, by rw [HS.out]; exact HI2.out.go HB1.out, HI3.out.trans (Below.mono HB1.out HI3.out.size), Nat.le_trans i4 HB1.out.size⟩
  case done =>
    rintro D ys W hD hys ⟨i1, i2, i3, i4⟩ hK
    have d0 := cell_of1 i1
    have HI2 := hidIt i2
    have HI3 := hidIt i3
    have HI1 := hidIt i1
    have HE : Hid (atomsT t = ascOf (atomKs (ys.map Nd.key))) := by show _ = _; rw [hys]; rfl
    have HLEN : Hid ((atomKs (ys.map Nd.key)).length ≤ 1000000) := by
      have h1 := atomKs_len (ys.map Nd.key)
      have h2 := HN.out
      show _ ≤ _
      rw [hys, keysT_len] at h1
      rw [hys]
      omega
    have HNS : Hid (∀ s ∈ atomKs (ys.map Nd.key), s.size ≤ maxLen) := by
      intro s hs
      unfold atomKs at hs
      obtain ⟨k, hk, rfl⟩ := List.mem_map.1 hs
      obtain ⟨y, -, rfl⟩ := List.mem_map.1 (List.mem_filter.1 hk).1
      exact y.hname
    have HDD := hidIt hK
    clear hB0 hbf hbp hset i1 i2 i3 hys hK
    gi_wp2_with fail
    refine ⟨trivial, (callsIn_wide.2 (keys_any (some (w.heap.size + 1)) W)).mono ?_⟩
    rintro e w' ⟨rfl, rfl⟩
    gi_wp2_with fail
    refine ⟨trivial, (callsIn_wide.2 (sorted_any (w.heap.size + 1) _ HNS.out HLEN.out W HI2.out)).mono ?_⟩
    rintro e w' ⟨u, rfl, hown, hb⟩
    have HOWN := hidIt hown
    have HBB := hidIt hb
    clear hown hb
    gi_wp2_with fail
    have hD1 : D < W.heap.size := lt_of_block HDD.out
    have hK1 : w'.heap[D]? = some (.deferred (some [])) := blk_kept (blk_kept HDD.out (Grows.alloc W (.cells #[.map (some (w.heap.size + 1))] 66))) HBB.out
    have hbl : Below w.heap.size w w' := (HI3.out.alloc HI3.out.size _).trans (Below.mono HBB.out (by have := HI3.out.size; simp; omega))
    refine ⟨by simp, .inl ⟨_, _, rfl, run_takeDeferred hK1, ?_⟩⟩
    refine ⟨_, results_tmp rfl _ _ _, _, rfl, ?_, hbl.trans (belowK_b (w := w) (Nat.le_refl _) w' D _ _ (by omega) hK1 rfl rfl)⟩
    rw [HE.out]
    exact (HOWN.out.kept (grownBy_putObj' w' D _) (fun g e => by injection e with e; simp; omega)).base (by have := HI3.out.size; simp; omega)
  case stop =>
    rintro D c pre W _ _ h _
    exact h.elim
end Go.Proofs.YtilkpjcbmllgmaaGreatDoor

namespace Go.Proofs.YtilkpjcbmllgmaaGreatDoor
set_option linter.unusedVariables false
set_option linter.unusedSimpArgs false
open Go Go.RowKit

theorem keysL_mem {t : Tree} : ∀ {ts : List Tree}, t ∈ ts → ∀ k ∈ keysT t, k ∈ keysL ts
  | [], h, _, _ => by cases h
  | u :: ts, h, k, hk => by
    rw [keysL, List.mem_append]
    rcases List.mem_cons.1 h with rfl | h
    · exact .inl hk
    · exact .inr (keysL_mem h k hk)

theorem mem_atomKs {ks : List (Int × ByteArray × Nat)} {s : ByteArray} : s ∈ atomKs ks ↔ (3, s, 0) ∈ ks := by
  unfold atomKs
  rw [List.mem_map]
  constructor
  · rintro ⟨⟨o, s', n⟩, hk, rfl⟩
    obtain ⟨h1, h2⟩ := List.mem_filter.1 hk
    simp only [Bool.and_eq_true, decide_eq_true_eq] at h2
    obtain ⟨rfl, rfl⟩ := h2
    exact h1
  · intro h
    exact ⟨_, List.mem_filter.2 ⟨h, rfl⟩, rfl⟩

theorem value_own (p q : ByteArray → Bool) : ∀ t : Tree, t.all kindB = true → (∀ s, (3, s, 0) ∈ keysT t → p s = q s) → valueB p t = valueB q t := by
  refine Tree.ind fun op name ts ih hk h => ?_
  obtain ⟨k1, k2⟩ := all_self hk
  have hall : valuesB p ts = valuesB q ts := by
    rw [valuesB_map, valuesB_map]
    refine List.map_congr_left fun t ht => ih t ht (allL_mem k2 t ht) fun s hs => h s ?_
    rw [keysT]
    exact List.mem_cons_of_mem _ (keysL_mem ht _ hs)
  unfold valueB
  rw [hall]
  by_cases h3 : op = 3
  · subst h3
    have h0 : ts.length = 0 := by
      simp only [kindB, Tree.op_node, Tree.args_node] at k1
      simpa using k1
    have := h name (by rw [keysT, h0]; exact List.mem_cons_self)
    simp [this]
  · have hop : op = 1 ∨ op = 2 ∨ op = 4 ∨ op = 5 ∨ op = 6 ∨ op = 7 ∨ op = 8 := by
      unfold kindB at k1
      simp only [Tree.op_node, Tree.args_node] at k1
      grind
    rcases hop with rfl | rfl | rfl | rfl | rfl | rfl | rfl <;> simp

/-- The value depends on the formula's own atoms alone. -/
theorem eval_own {t : Tree} {l m : List ByteArray} (h : ∀ s ∈ atomsT t, inB l s = inB m s) : evalB t l = evalB t m := by
  unfold evalB
  cases hw : wellF t
  · rfl
  · rw [wellF_split, Bool.and_eq_true] at hw
    rw [Bool.true_and, Bool.true_and, value_own (inB l) (inB m) t hw.1 fun s hs => h s ((mem_ascOf s _).2 (mem_atomKs.2 hs))]

theorem inB_append (l m : List ByteArray) (s : ByteArray) : inB (l ++ m) s = (inB l s || inB m s) := by simp [inB]
theorem inB_one (x s : ByteArray) : inB [x] s = (x.data.toList == s.data.toList) := by simp [inB]
theorem inB_mem {l : List ByteArray} {s : ByteArray} : inB l s = true ↔ s ∈ l := by
  unfold inB
  rw [List.any_eq_true]
  constructor
  · rintro ⟨x, hx, he⟩
    have e := bytes_inj (a := x) (b := s) (by simpa using he)
    rw [← e]
    exact hx
  · exact fun h => ⟨s, h, by simp⟩
theorem inB_take (l : List ByteArray) (k : Nat) (h : k < l.length) (s : ByteArray) : inB (l.take (k + 1)) s = (inB (l.take k) s || inB [l[k]] s) := by rw [take_snoc' l k h, inB_append]

/-- Some of the strings of 'more' that are no atoms stand behind 'yes'. -/
def AllP (a yes l : List ByteArray) : Prop := ∀ s ∈ a, inB l s = inB yes s
theorem AllP.start (a yes : List ByteArray) : AllP a yes yes := fun _ _ => rfl
theorem AllP.snoc {a yes l : List ByteArray} (h : AllP a yes l) {m : ByteArray} (hm : inB a m = false) : AllP a yes (l ++ [m]) := fun s hs => by
  rw [inB_append, h s hs, inB_one]
  have : (m.data.toList == s.data.toList) = false := by
    rw [beq_eq_false_iff_ne]
    intro e
    rw [bytes_inj e] at hm
    rw [inB_mem.2 hs] at hm
    cases hm
  rw [this, Bool.or_false]

/-- Those of the first strings of 'yes' that are atoms; and of the next one, x, as far as the atoms have been looked at. -/
def FewP (y a : List ByteArray) (x : ByteArray) (k : Nat) (l : List ByteArray) : Prop := ∀ s, inB l s = ((inB y s && inB a s) || (inB [x] s && inB (a.take k) s))
theorem FewP.start {y a : List ByteArray} (x : ByteArray) {l : List ByteArray} (h : ∀ s, inB l s = (inB y s && inB a s)) : FewP y a x 0 l := fun s => by
  rw [h s]
  simp [inB]
theorem FewP.yes {y a : List ByteArray} {x : ByteArray} {k : Nat} {l : List ByteArray} (h : FewP y a x k l) (hk : k < a.length) (e : x = a[k]) : FewP y a x (k + 1) (l ++ [x]) := fun s => by
  rw [inB_append, h s, inB_take a k hk, ← e]
  cases inB [x] s <;> simp
theorem FewP.no {y a : List ByteArray} {x : ByteArray} {k : Nat} {l : List ByteArray} (h : FewP y a x k l) (hk : k < a.length) (e : x ≠ a[k]) : FewP y a x (k + 1) l := fun s => by
  rw [h s, inB_take a k hk]
  have : (inB [x] s && inB [a[k]] s) = false := by
    rw [Bool.and_eq_false_iff]
    by_cases h1 : inB [x] s = true
    · right
      rw [inB_one] at h1 ⊢
      rw [beq_eq_false_iff_ne]
      intro h2
      exact e (bytes_inj ((by simpa using h1 : x.data.toList = s.data.toList).trans h2.symm))
    · left
      simpa using h1
  rw [Bool.and_or_distrib_left, this, Bool.or_false]
theorem FewP.stop {y a : List ByteArray} {x : ByteArray} {l : List ByteArray} (h : FewP y a x a.length l) : ∀ s, inB l s = (inB (y ++ [x]) s && inB a s) := fun s => by
  rw [h s, List.take_length, inB_append, Bool.and_or_distrib_right]

theorem few_eval {t : Tree} {yes l : List ByteArray} (h : ∀ s, inB l s = (inB yes s && inB (atomsT t) s)) : evalB t l = evalB t yes :=
  eval_own fun s hs => by rw [h s, inB_mem.2 hs, Bool.and_true]

theorem insS_len (x : ByteArray) : ∀ l, (insS x l).length ≤ l.length + 1
  | [] => by simp [insS]
  | y :: l => by
    unfold insS
    split
    · have := insS_len x l
      simp only [List.length_cons]
      omega
    · split
      · simp
      · simp
theorem ascOf_len (l : List ByteArray) : (ascOf l).length ≤ l.length := by
  have : ∀ (l acc : List ByteArray), (l.foldl (fun acc x => insS x acc) acc).length ≤ acc.length + l.length := by
    intro l
    induction l with
    | nil => intro acc; simp
    | cons x l ih =>
      intro acc
      have h1 := ih (insS x acc)
      have h2 := insS_len x acc
      simp only [List.foldl_cons, List.length_cons]
      omega
  simpa [ascOf] using this l []
theorem atomsT_len (t : Tree) : (atomsT t).length ≤ t.nodes := by
  have h1 := ascOf_len (atomKs (keysT t))
  have h2 := atomKs_len (keysT t)
  rw [keysT_len] at h2
  exact Nat.le_trans h1 h2
end Go.Proofs.YtilkpjcbmllgmaaGreatDoor

namespace Go.Proofs.YtilkpjcbmllgmaaGreatDoor
set_option linter.unusedVariables false
set_option linter.unusedSimpArgs false
open Go.RowKit

/-- What Format answers: the error, and the text. -/
def fmtI (t : Tree) : Int := if valE t = 0 then (if 4096 < (textB t).size then 2 else 0) else valE t
def fmtT (t : Tree) : ByteArray := if fmtI t = 0 then textB t else ⟨#[]⟩

theorem valE_zero {t : Tree} (h : valE t = 0) : t.nodes ≤ 600 ∧ t.depth ≤ 20 ∧ t.all kindB = true ∧ t.all nameB = true := by
  unfold valE at h
  split at h
  · rename_i h1
    have h2 := of_decide_eq_true h1
    split at h
    · rename_i h3
      split at h
      · rename_i h4
        exact ⟨by omega, by omega, h3, h4⟩
      · cases h
    · cases h
  · cases h

theorem valE_range (t : Tree) : valE t = 0 ∨ valE t = 2 ∨ valE t = 3 ∨ valE t = 4 := by
  unfold valE
  repeat' split
  all_goals simp

theorem ret_two {a b c d : Value} (h : a = b) (k : c = d) : Ending.returned (.tuple #[a, c]) = .returned (.tuple #[b, d]) := by rw [h, k]

set_option maxHeartbeats 400000 in
theorem fformat_any (t : Tree) (v : Value) (w : World) (h : FormAt w none v t) :
    Calls Tryz.prog 64 #[v] w fun e w' => e = .returned (.tuple #[.string (fmtT t), .int .i64 (fmtI t)]) ∧ Below w.heap.size w w' := by
  obtain ⟨a, cap, b, off, rfl, hop, hname, hlen, hcap, -, -⟩ := h.form
  have H := hidIt (h.go ((Below.refl _ _).alloc (Nat.le_refl _) (.cells #[.int .i64 t.op, .string t.name, .slice a t.args.length cap] 24)))
  clear h
  by_cases hv : valE t = 0
  · obtain ⟨h1, -, h3, h4⟩ := valE_zero hv
    have HT := hidIt (text_any t h3 h4 h1)
    have hsz := textB_size t h4
    have HV := hidIt hv
    by_cases hl : 4096 < (textB t).size
    · have HI : Hid (fmtI t = 2) := by show _ = _; unfold fmtI; rw [if_pos hv, if_pos hl]
      have HE : Hid (fmtT t = ⟨#[]⟩) := by show _ = _; unfold fmtT; rw [HI.out]; rfl
      have hl' : (4096 : Int) < ((textB t).size : Int) := by omega
      clear hv h3 h4 hl
      go_enter Tryz.func64, Tryz.ntmps64
      go_wp2_with fail
      refine (validate_any t _ _ H.out).mono ?_
      rintro e w' ⟨rfl, hb⟩
      rw [HV.out]
      have HB := hidIt (below_box hb)
      obtain ⟨p0, p1, p2⟩ := cell_of3 (laid_box hb)
      have hsz : w.heap.size < w'.heap.size := lt_of_block (laid_box hb)
      have HF := hidIt (H.out.go hb)
      clear hb
      go_wp2_with fail
      refine (HT.out _ _ HF.out).mono ?_
      rintro e w2 ⟨rfl, hb2⟩
      have HB2 := hidIt (HB.out.trans (hb2.mono HB.out.size))
      clear hb2
      go_wp2_with fail
      go_ret2
      exact ⟨ret_two (congrArg Value.string HE.out.symm) (congrArg (Value.int .i64) HI.out.symm), HB2.out⟩
    · have HI : Hid (fmtI t = 0) := by show _ = _; unfold fmtI; rw [if_pos hv, if_neg hl]
      have HE : Hid (fmtT t = textB t) := by show _ = _; unfold fmtT; rw [HI.out]; rfl
      have hl' : decide ((4096 : Int) < ((textB t).size : Int)) = false := by simp; omega
      clear hv h3 h4
      go_enter Tryz.func64, Tryz.ntmps64
      go_wp2_with fail
      refine (validate_any t _ _ H.out).mono ?_
      rintro e w' ⟨rfl, hb⟩
      rw [HV.out]
      have HB := hidIt (below_box hb)
      obtain ⟨p0, p1, p2⟩ := cell_of3 (laid_box hb)
      have hsz : w.heap.size < w'.heap.size := lt_of_block (laid_box hb)
      have HF := hidIt (H.out.go hb)
      clear hb
      go_wp2_with fail
      refine (HT.out _ _ HF.out).mono ?_
      rintro e w2 ⟨rfl, hb2⟩
      have HB2 := hidIt (HB.out.trans (hb2.mono HB.out.size))
      clear hb2
      go_wp2_with fail
      go_ret2
      exact ⟨ret_two (congrArg Value.string HE.out.symm) (congrArg (Value.int .i64) HI.out.symm), HB2.out⟩
  · have HI : Hid (fmtI t = valE t) := by show _ = _; unfold fmtI; rw [if_neg hv]
    have HE : Hid (fmtT t = ⟨#[]⟩) := by show _ = _; unfold fmtT; rw [HI.out, if_neg hv]
    have hz : (valE t == 0) = false := by simp [hv]
    have hz2 : (valE t != 0) = true := by simp [hv]
    have hr := valE_range t
    have HR := hidIt hr
    clear hr
    go_enter Tryz.func64, Tryz.ntmps64
    go_wp2_with fail
    refine (validate_any t _ _ H.out).mono ?_
    rintro e w' ⟨rfl, hb⟩
    have HB := hidIt (below_box hb)
    clear hb
    go_wp2_with fail
    go_ret2
    exact ⟨ret_two (congrArg Value.string HE.out.symm) (congrArg (Value.int .i64) HI.out.symm), HB.out⟩
end Go.Proofs.YtilkpjcbmllgmaaGreatDoor

namespace Go.Proofs.YtilkpjcbmllgmaaGreatDoor
set_option linter.unusedVariables false
set_option linter.unusedSimpArgs false
open Go.RowKit

theorem pairP_none {op : Int} {sign : Rest} {SL SR : Rest → Option Tree × Rest} {r r1 : Rest} (h : SL r = (none, r1)) : pairP op sign SL SR r = (none, r1) := by unfold pairP; rw [h]
theorem pairP_left {op : Int} {sign : Rest} {SL SR : Rest → Option Tree × Rest} {r r1 : Rest} {f : Tree} (h : SL r = (some f, r1)) (ht : ¬ tok r1 = sign) : pairP op sign SL SR r = (some f, r1) := by
  unfold pairP; rw [h]; simp only; rw [if_neg ht]
/-- Both parts. -/
def bothP (op : Int) (f : Tree) : Option Tree × Rest → Option Tree × Rest
  | (some g, r) => (some (.node op ⟨#[]⟩ [f, g]), r)
  | (none, r) => (none, r)
theorem pairP_both {op : Int} {sign : Rest} {SL SR : Rest → Option Tree × Rest} {r r1 : Rest} {f : Tree} (h : SL r = (some f, r1)) (ht : tok r1 = sign) : pairP op sign SL SR r = bothP op f (SR (nxt r1)) := by
  unfold pairP; rw [h]; simp only; rw [if_pos ht]; rfl
theorem bothP_some (op : Int) (f : Tree) (x : Option Tree × Rest) : (bothP op f x).1.isSome = x.1.isSome := by obtain ⟨o, r⟩ := x; cases o <;> rfl
theorem bothP_rest (op : Int) (f : Tree) (x : Option Tree × Rest) : (bothP op f x).2 = x.2 := by obtain ⟨o, r⟩ := x; cases o <;> rfl
theorem bothP_tree {op : Int} {f : Tree} {x : Option Tree × Rest} {g : Tree} (h : (bothP op f x).1 = some g) : ∃ g', x.1 = some g' ∧ g = .node op ⟨#[]⟩ [f, g'] := by
  obtain ⟨o, r⟩ := x
  cases o with
  | none => cases h
  | some g' => exact ⟨g', rfl, (Option.some.inj h).symm⟩

set_option maxRecDepth 100000 in
set_option maxHeartbeats 2000000 in
theorem pair_walk (op : Int) (hop : 0 ≤ op) (hop' : op ≤ 9) (sign : Rest) (S : ByteArray) (hS : S.toList = sign) (hs0 : 0 < sign.length) (fl fr : Nat) (el : Enters fl) (er : Enters fr) (SL SR : Rest → Option Tree × Rest) (r : Rest)
    (hL : POk fl SL r) (hR : ∀ r', r'.length < r.length → POk fr SR r') (hlen : (SL r).2.length ≤ r.length) (w : World) (b : Nat) (s : ByteArray) (h : PAt w b s r) :
    Calls Tryz.prog 113 #[.pointer (some ⟨b, 0, none⟩), .int .i64 op, .string S, .func (.func fl) #[.pointer (some ⟨b, 0, none⟩)] #[], .func (.func fr) #[.pointer (some ⟨b, 0, none⟩)] #[]] w (PPost w b s (pairP op sign SL SR r)) := by
  have hlt := h.lt
  have H := hidIt h
  have HL := hidIt hL
  have HR := hidIt hR
  have hcl : ∀ (args : Array Value) (w : World), (callFunc fl args).run Tryz.prog w = .ok (.enter fl args) w := el
  have hcr : ∀ (args : Array Value) (w : World), (callFunc fr args).run Tryz.prog w = .ok (.enter fr args) w := er
  have hI := hidIt (i64_small hop hop')
  have hlen' := hidIt hlen
  have HSS := hidIt hS
  clear hL hR h el er hlen hS
  go_enter Tryz.func113, Tryz.ntmps113
  go_wp2_with fail
  refine (HL.out _ b s (H.out.alloc _)).mono ?_
  rintro e w1 ⟨o1, n1, a1, k1, c1, rfl, hf, hp1, hg1⟩
  cases hres : SL r with
  | mk o r1 =>
    rw [hres] at hf hp1
    simp only at hf hp1
    have HG1 : Hid (w.grownBy w1 (some b)) := only_trans (only_alloc (only_refl _ _) _) hg1
    have HK1 := hidIt (own_kept (heap_alloc_new w _) hg1 (by omega))
    have hlt1 := hp1.lt
    have hR1 := lt_of_block HK1.out
    obtain ⟨r0, r1', r2⟩ := cell_of3 HK1.out
    obtain ⟨f0, f1, f2⟩ := cells_free HK1.out
    obtain ⟨-, t2⟩ := hp1.cells
    have HP1 := hidIt hp1
    have HF1 : Hid (∀ f, o = some f → FormIn w1 (fun i => w.heap.size + 1 ≤ i) (.agg #[.int .i64 o1, .string n1, .slice a1 k1 c1]) f) := fun f hf' => (hf f hf').mono (fun i _ hi => by simpa using hi)
    have hlen2 : Hid (r1.length ≤ r.length) := by have := hlen'.out; rw [hres] at this; exact this
    have HRES := hidIt hres
    clear hf hp1 hg1 hres hlen'
    obtain ⟨T, hT⟩ : ∃ T, T = (⟨(tok r1).toArray⟩ : ByteArray) := ⟨_, rfl⟩
    have hTl : Hid (T.toList = tok r1) := by show _ = _; rw [hT, Lib.toList_data]
    rw [← hT] at t2
    clear hT
    cases o with
    | none =>
      have HE : Hid (pairP op sign SL SR r = (none, r1)) := pairP_none HRES.out
      go_wp2_with fail
      refine bodyPost_ret (v := .tuple #[.agg #[.int .i64 o1, .string n1, .slice a1 k1 c1], .bool false]) (by simp [results, Tryz.results113, go_sem, r0, r1', r2, hR1]) rfl ?_
      have hgF := only_alloc (set_three w1 w.heap.size (.int .i64 o1) (.string n1) (.slice a1 k1 c1)) (.cells #[.int .i64 o1, .string n1, .slice a1 k1 c1] 24)
      refine ⟨o1, n1, a1, k1, c1, by rw [HE.out]; rfl, fun f hf => ?_, ?_, only_new HG1.out hgF (Nat.le_refl _)⟩
      · rw [HE.out] at hf; cases hf
      · rw [HE.out]
        exact HP1.out.kept hgF (fun e => by injection e with e; omega) (fun e => by injection e with e; omega)
    | some f =>
      have HF := hidIt (HF1.out f rfl)
      by_cases ht : tok r1 = sign
      · have hq : (T.toList == S.toList) = true := by rw [hTl.out, HSS.out, ht]; exact beq_self_eq_true _
        have HE : Hid (pairP op sign SL SR r = bothP op f (SR (nxt r1))) := pairP_both HRES.out ht
        have hnl : Hid ((nxt r1).length < r.length) := Nat.lt_of_lt_of_le (nxt_lt hs0 ht) hlen2.out
        clear ht
        go_wp2_with fail
        refine (next_at (HP1.out.alloc _)).mono ?_
        rintro e w2 ⟨rfl, hp2, hg2⟩
        have HG2a := hidIt (only_trans (only_alloc (only_refl w1 (some b)) _) hg2)
        have HG2 := hidIt (only_trans HG1.out HG2a.out)
        have HL2 := hidIt (own_kept (heap_alloc_new w1 _) hg2 (by omega))
        have HK2 := hidIt (own_kept HK1.out HG2a.out (by omega))
        have HP2 := hidIt hp2
        have hlt2 := hp2.lt
        have HF2 := hidIt (HF.out.over (w1 := w1) HG2a.out (by omega))
        clear hp2 hg2 r0 r1' r2 f0 f1 f2 t2
        go_wp2_with fail
        refine (HR.out _ hnl.out _ b s HP2.out).mono ?_
        rintro e w3 ⟨o3, n3, a3, k3, c3, rfl, hf3, hp3, hg3⟩
        have HG3 := hidIt (only_trans HG2.out hg3)
        have HL3 := hidIt (own_kept HL2.out hg3 (by omega))
        have HK3 := hidIt (own_kept HK2.out hg3 (by omega))
        have HP3 := hidIt hp3
        have HF3 := hidIt (HF2.out.over (w1 := w1) hg3 (by omega))
        have HQ3 := hidIt hf3
        have hs12 := HG2a.out.size
        have hs23 := hg3.size
        have hL := lt_of_block HL3.out
        obtain ⟨l0, l1, l2⟩ := cell_of3 HL3.out
        have hR3 := lt_of_block HK3.out
        obtain ⟨r0, r1', r2⟩ := cell_of3 HK3.out
        obtain ⟨f0, f1, f2⟩ := cells_free HK3.out
        clear hf3 hp3 hg3
        generalize hok : (SR (nxt r1)).1.isSome = okb at *
        have HOK := hidIt hok
        clear hok
        go_wp2_with fail
        refine bodyPost_ret (v := .tuple #[.agg #[.int .i64 op, .string ⟨#[]⟩, .slice (some ⟨w3.heap.size + 1, 0, none⟩) 2 2], .bool okb]) (by simp [results, Tryz.results113, go_sem, r0, r1', r2, hR3]) rfl ?_
        have hgF : w3.grownBy (((((w3.setCell ⟨w.heap.size, 0, none⟩ (.int .i64 op)).setCell ⟨w.heap.size, 1, none⟩ (.string ⟨#[]⟩)).setCell ⟨w.heap.size, 2, none⟩ (.slice (some ⟨w3.heap.size + 1, 0, none⟩) 2 2)).alloc (.cells #[.int .i64 o3, .string n3, .slice a3 k3 c3] 24)).alloc (.cells #[.int .i64 o1, .string n1, .slice a1 k1 c1, .int .i64 o3, .string n3, .slice a3 k3 c3] 24)) (some w.heap.size) := only_alloc (only_alloc (set_three _ _ _ _ _) _) _
        refine ⟨op, ⟨#[]⟩, _, 2, 2, by rw [HE.out, bothP_some, HOK.out], fun f' hf => ?_, ?_, only_new HG3.out hgF (Nat.le_refl _)⟩
        · rw [HE.out] at hf
          obtain ⟨g, hg, rfl⟩ := bothP_tree hf
          have h1 := ((HF3.out).over (w1 := w1) hgF (by omega)).mono (S' := fun i => w.heap.size ≤ i) (fun i _ hi => by omega)
          have h2 := ((HQ3.out g hg).over (w1 := w1) hgF (by omega)).mono (S' := fun i => w.heap.size ≤ i) (fun i _ hi => by omega)
          exact FormIn.mk (FormsIn.two (heap_alloc_at (by simp [World.setCell])) (by show _ ≤ _; omega) h1 h2) rfl hI.out nil_le (Nat.le_refl _) (by unfold maxLen; simp)
        · rw [HE.out, bothP_rest]
          exact HP3.out.kept hgF (fun e => by injection e with e; omega) (fun e => by injection e with e; omega)
      · have hq : (T.toList == S.toList) = false := by rw [hTl.out, HSS.out]; exact beq_eq_false_iff_ne.2 ht
        have HE : Hid (pairP op sign SL SR r = (some f, r1)) := pairP_left HRES.out ht
        clear ht
        go_wp2_with fail
        refine bodyPost_ret (v := .tuple #[.agg #[.int .i64 o1, .string n1, .slice a1 k1 c1], .bool true]) (by simp [results, Tryz.results113, go_sem, r0, r1', r2, hR1]) rfl ?_
        have hgF := only_alloc (set_three w1 w.heap.size (.int .i64 o1) (.string n1) (.slice a1 k1 c1)) (.cells #[.int .i64 o1, .string n1, .slice a1 k1 c1] 24)
        refine ⟨o1, n1, a1, k1, c1, by rw [HE.out]; rfl, fun f' hf => ?_, ?_, only_new HG1.out hgF (Nat.le_refl _)⟩
        · rw [HE.out] at hf
          obtain rfl : f = f' := Option.some.inj hf
          exact (HF.out.over (w1 := w) hgF (by omega)).mono (fun i _ hi => by omega)
        · rw [HE.out]
          exact HP1.out.kept hgF (fun e => by injection e with e; omega) (fun e => by injection e with e; omega)
end Go.Proofs.YtilkpjcbmllgmaaGreatDoor

namespace Go.Proofs.YtilkpjcbmllgmaaGreatDoor
set_option linter.unusedVariables false
set_option linter.unusedSimpArgs false
open Go.RowKit

theorem rowP_none {op : Int} {sign : Rest} {SP : Rest → Option Tree × Rest} {r r1 : Rest} (h : SP r = (none, r1)) : rowP op sign SP r = (none, r1) := by unfold rowP; rw [h]
theorem rowP_left {op : Int} {sign : Rest} {SP : Rest → Option Tree × Rest} {r r1 : Rest} {f : Tree} (h : SP r = (some f, r1)) (ht : ¬ tok r1 = sign) : rowP op sign SP r = (some f, r1) := by
  unfold rowP; rw [h]; simp only; rw [if_neg ht]
/-- The formula of the parts. -/
def manyP (op : Int) : Option (List Tree) × Rest → Option Tree × Rest
  | (some l, r) => (some (.node op ⟨#[]⟩ l), r)
  | (none, r) => (none, r)
theorem rowP_many {op : Int} {sign : Rest} {SP : Rest → Option Tree × Rest} {r r1 : Rest} {f : Tree} (h : SP r = (some f, r1)) (ht : tok r1 = sign) : rowP op sign SP r = manyP op (rowLoop sign SP (r1.length + 1) [f] r1) := by
  unfold rowP; rw [h]; simp only; rw [if_pos ht]; rfl
theorem rowLoop_stop {sign : Rest} {SP : Rest → Option Tree × Rest} {n : Nat} {l : List Tree} {r : Rest} (h : ¬ tok r = sign) : rowLoop sign SP (n + 1) l r = (some l, r) := by
  unfold rowLoop; rw [if_neg h]
theorem rowLoop_fail {sign : Rest} {SP : Rest → Option Tree × Rest} {n : Nat} {l : List Tree} {r r1 : Rest} (h : tok r = sign) (hp : SP (nxt r) = (none, r1)) : rowLoop sign SP (n + 1) l r = (none, r1) := by
  unfold rowLoop; rw [if_pos h, hp]
theorem rowLoop_on {sign : Rest} {SP : Rest → Option Tree × Rest} {n : Nat} {l : List Tree} {r r1 : Rest} {f : Tree} (h : tok r = sign) (hp : SP (nxt r) = (some f, r1)) : rowLoop sign SP (n + 1) l r = rowLoop sign SP n (l ++ [f]) r1 := by
  conv => lhs; unfold rowLoop
  rw [if_pos h, hp]

/-- The loop's state: the parts so far. -/
structure RowSt (w : World) (b : Nat) (s : ByteArray) (sign : Rest) (SP : Rest → Option Tree × Rest) (goal : Option (List Tree) × Rest) (r0 : Rest) (ok : Bool) (v : Value) (wr : World) (g : Nat) : Prop where
  form : ∃ (a : Option Addr) (n c : Nat), v = .slice a n c
  res : wr.heap[w.heap.size]? = some (.cells #[.int .i64 0, .string ⟨#[]⟩, .slice none 0 0] 24 (0, 0))
  gr : w.grownBy wr (some b)
  yes : ok = true → ∃ (l : List Tree) (r : Rest), PAt wr b s r ∧ OwnF wr (w.heap.size + 1) v l ∧ rowLoop sign SP g l r = goal ∧ r.length < g ∧ r.length ≤ r0.length ∧ l.length + g ≤ 5000
  no : ok = false → ∃ r : Rest, PAt wr b s r ∧ goal = (none, r)

set_option maxRecDepth 100000 in
set_option maxHeartbeats 4000000 in
theorem row_walk (op : Int) (hop : 0 ≤ op) (hop' : op ≤ 9) (sign : Rest) (S : ByteArray) (hS : S.toList = sign) (hs0 : 0 < sign.length) (fp : Nat) (ep : Enters fp) (SP : Rest → Option Tree × Rest) (r : Rest)
    (hP0 : POk fp SP r) (hP : ∀ r', r'.length < r.length → POk fp SP r') (hlen : Shrinks SP) (w : World) (b : Nat) (s : ByteArray) (h : PAt w b s r) :
    Calls Tryz.prog 142 #[.pointer (some ⟨b, 0, none⟩), .int .i64 op, .string S, .func (.func fp) #[.pointer (some ⟨b, 0, none⟩)] #[]] w (PPost w b s (rowP op sign SP r)) := by
  have hlt := h.lt
  have H := hidIt h
  have HP0 := hidIt hP0
  have HP := hidIt hP
  have hcp : ∀ (args : Array Value) (w : World), (callFunc fp args).run Tryz.prog w = .ok (.enter fp args) w := ep
  have hI := hidIt (i64_small hop hop')
  have hlen' := hidIt hlen
  have HSS := hidIt hS
  clear hP0 hP h ep hlen hS
  go_enter Tryz.func142, Tryz.ntmps142
  go_wp2_with fail
  refine (HP0.out _ b s (H.out.alloc _)).mono ?_
  rintro e w1 ⟨o1, n1, a1, k1, c1, rfl, hf, hp1, hg1⟩
  cases hres : SP r with
  | mk o r1 =>
    rw [hres] at hf hp1
    simp only at hf hp1
    have HG1 : Hid (w.grownBy w1 (some b)) := only_trans (only_alloc (only_refl _ _) _) hg1
    have HK1 := hidIt (own_kept (heap_alloc_new w _) hg1 (by omega))
    have hlt1 := hp1.lt
    have hR1 := lt_of_block HK1.out
    obtain ⟨r0, r1', r2⟩ := cell_of3 HK1.out
    obtain ⟨f0, f1, f2⟩ := cells_free HK1.out
    obtain ⟨-, t2⟩ := hp1.cells
    have HP1 := hidIt hp1
    have HF1 : Hid (∀ f, o = some f → FormIn w1 (fun i => w.heap.size + 1 ≤ i) (.agg #[.int .i64 o1, .string n1, .slice a1 k1 c1]) f) := fun f hf' => (hf f hf').mono (fun i _ hi => by simpa using hi)
    have hlen2 : Hid (r1.length ≤ r.length) := by have := hlen'.out r; rw [hres] at this; exact this
    have HRES := hidIt hres
    clear hf hp1 hg1 hres
    obtain ⟨T, hT⟩ : ∃ T, T = (⟨(tok r1).toArray⟩ : ByteArray) := ⟨_, rfl⟩
    have hTl : Hid (T.toList = tok r1) := by show _ = _; rw [hT, Lib.toList_data]
    rw [← hT] at t2
    clear hT
    cases o with
    | none =>
      have HE : Hid (rowP op sign SP r = (none, r1)) := rowP_none HRES.out
      go_wp2_with fail
      refine bodyPost_ret (v := .tuple #[.agg #[.int .i64 o1, .string n1, .slice a1 k1 c1], .bool false]) (by simp [results, Tryz.results142, go_sem, r0, r1', r2, hR1]) rfl ?_
      have hgF := only_alloc (set_three w1 w.heap.size (.int .i64 o1) (.string n1) (.slice a1 k1 c1)) (.cells #[.int .i64 o1, .string n1, .slice a1 k1 c1] 24)
      refine ⟨o1, n1, a1, k1, c1, by rw [HE.out]; rfl, fun f hf => ?_, ?_, only_new HG1.out hgF (Nat.le_refl _)⟩
      · rw [HE.out] at hf; cases hf
      · rw [HE.out]
        exact HP1.out.kept hgF (fun e => by injection e with e; omega) (fun e => by injection e with e; omega)
    | some f =>
      have HF := hidIt (HF1.out f rfl)
      by_cases ht : tok r1 = sign
      · have hq : (T.toList == S.toList) = true := by rw [hTl.out, HSS.out, ht]; exact beq_self_eq_true _
        have HE : Hid (rowP op sign SP r = manyP op (rowLoop sign SP (r1.length + 1) [f] r1)) := rowP_many HRES.out ht
        clear ht
        go_wp2_with fail
        have hst : Hid (RowSt w b s sign SP (rowLoop sign SP (r1.length + 1) [f] r1) r true (.slice (some ⟨w1.heap.size + 1, 0, none⟩) 1 1) ((w1.alloc (.cells #[.int .i64 o1, .string n1, .slice a1 k1 c1] 24)).alloc (.cells #[.int .i64 o1, .string n1, .slice a1 k1 c1] 24)) (r1.length + 1)) := by
          have hb2 : Below w1.heap.size w1 ((w1.alloc (.cells #[.int .i64 o1, .string n1, .slice a1 k1 c1] 24)).alloc (.cells #[.int .i64 o1, .string n1, .slice a1 k1 c1] 24)) := ((Below.refl _ _).alloc (Nat.le_refl _) _).alloc (by simp) _
          refine ⟨⟨_, 1, 1, rfl⟩, blk_kept HK1.out hb2, only_trans HG1.out (only_of_below hb2 _), fun _ => ⟨[f], r1, HP1.out.go hb2, ?_, rfl, by omega, hlen2.out, by have := HP1.out.len; simp; omega⟩, fun e => by cases e⟩
          exact OwnF.one (heap_alloc_at (by simp)) (by omega) ((HF.out.mono (S' := fun k => w.heap.size + 1 ≤ k ∧ k ≠ w1.heap.size + 1) (fun i hi hS => ⟨hS, by omega⟩)).go hb2)
        generalize hgoal : rowLoop sign SP (r1.length + 1) [f] r1 = goal at HE hst
        clear HK1 HP1 HF HF1 HG1 hlt1 hR1 r0 r1' r2 f0 f1 f2 t2 hq hgoal
        generalize ((w1.alloc (.cells #[.int .i64 o1, .string n1, .slice a1 k1 c1] 24)).alloc (.cells #[.int .i64 o1, .string n1, .slice a1 k1 c1] 24)) = W at *
        go_loopg [11, 12] (r1.length + 1) (fun g s11 s12 wr => ∃ okb : Bool, s11 = .bool okb ∧ Hid (RowSt w b s sign SP goal r okb s12 wr g))
        case atStart => exact ⟨true, rfl, hst⟩
        case round =>
          clear hst
          obtain ⟨okb, rfl, hst⟩ := hrel
          obtain ⟨av, nv, cv, rfl⟩ := hst.out.form
          have HK := hidIt hst.out.res
          have hR := lt_of_block HK.out
          obtain ⟨r0, r1', r2⟩ := cell_of3 HK.out
          obtain ⟨f0, f1, f2⟩ := cells_free HK.out
          cases okb with
          | false =>
            obtain ⟨r', hp, hgo⟩ := hst.out.no rfl
            have HP' := hidIt hp
            have HGO := hidIt hgo
            clear hp hgo
            go_wp2_with fail
            refine bodyPost_ret (v := .tuple #[.agg #[.int .i64 op, .string ⟨#[]⟩, .slice av nv cv], .bool false]) (by simp [results, Tryz.results142, go_sem, r0, r1', r2, hR]) rfl ?_
            have hgF := set_three wr w.heap.size (.int .i64 op) (.string ⟨#[]⟩) (.slice av nv cv)
            have HE1 : rowP op sign SP r = (none, r') := by rw [HE.out, HGO.out]; rfl
            refine ⟨op, ⟨#[]⟩, av, nv, cv, by rw [HE1]; rfl, fun f' hf => ?_, ?_, only_new hst.out.gr hgF (Nat.le_refl _)⟩
            · rw [HE1] at hf; cases hf
            · rw [HE1]
              exact HP'.out.kept hgF (fun e => by injection e with e; omega) (fun e => by injection e with e; omega)
          | true =>
            obtain ⟨l, r', hp, hown, hloop, hg1, hg2, hg3⟩ := hst.out.yes rfl
            have HP' := hidIt hp
            have HOWN := hidIt hown
            have HLOOP := hidIt hloop
            have hltr := hp.lt
            obtain ⟨-, t2⟩ := hp.cells
            obtain ⟨T', hT'⟩ : ∃ T', T' = (⟨(tok r').toArray⟩ : ByteArray) := ⟨_, rfl⟩
            have hTl' : Hid (T'.toList = tok r') := by show _ = _; rw [hT', Lib.toList_data]
            rw [← hT'] at t2
            clear hp hown hloop hT'
            obtain ⟨g', hg'⟩ : ∃ g', gk = g' + 1 := ⟨gk - 1, by omega⟩
            by_cases ht' : tok r' = sign
            · have hq' : (T'.toList == S.toList) = true := by rw [hTl'.out, HSS.out, ht']; exact beq_self_eq_true _
              have HT' := hidIt ht'
              clear ht'
              go_wp2_with fail
              refine (next_at HP'.out).mono ?_
              rintro e w3 ⟨rfl, hp3, hgn⟩
              have HP3 := hidIt hp3
              have HOWN3 := hidIt (HOWN.out.kept hgn (fun g e => by injection e with e; omega))
              have HG3 := hidIt (only_trans hst.out.gr hgn)
              have HK3 := hidIt (own_kept HK.out hgn (by omega))
              have hnl : Hid ((nxt r').length < r.length) := Nat.lt_of_lt_of_le (nxt_lt hs0 HT'.out) hg2
              have hnl2 : Hid ((nxt r').length < r'.length) := nxt_lt hs0 HT'.out
              have hlt3 := hp3.lt
              have hR3 := lt_of_block HK3.out
              clear hp3 hgn r0 r1' r2 f0 f1 f2 t2 hq'
              go_wp2_with fail
              refine (HP.out _ hnl.out _ b s (HP3.out.alloc _)).mono ?_
              rintro e w4 ⟨o4, n4, a4, k4, c4, rfl, hf4, hp4, hg4⟩
              cases hres4 : SP (nxt r') with
              | mk o4' r4 =>
                rw [hres4] at hf4 hp4
                simp only at hf4 hp4
                have hlen4 : Hid (r4.length ≤ (nxt r').length) := by have := hlen'.out (nxt r'); rw [hres4] at this; exact this
                have HRES4 := hidIt hres4
                have HF4 := hidIt hf4
                have HP4 := hidIt hp4
                have HG4 : Hid (w3.grownBy w4 (some b)) := only_trans (only_alloc (only_refl _ _) _) hg4
                have HL4 := hidIt (own_kept (heap_alloc_new w3 _) hg4 (by omega))
                have hL4 := lt_of_block HL4.out
                obtain ⟨l0, l1, l2⟩ := cell_of3 HL4.out
                obtain ⟨g0, g1, g2⟩ := cells_free HL4.out
                clear hf4 hp4 hg4 hres4
                cases o4' with
                | none =>
                  have hs3 := set_three w4 w3.heap.size (.int .i64 o4) (.string n4) (.slice a4 k4 c4)
                  have HW : Hid (w4.grownBy ((((w4.setCell ⟨w3.heap.size, 0, none⟩ (.int .i64 o4)).setCell ⟨w3.heap.size, 1, none⟩ (.string n4)).setCell ⟨w3.heap.size, 2, none⟩ (.slice a4 k4 c4)).alloc (.cells #[.int .i64 o4, .string n4, .slice a4 k4 c4] 24)) (some w3.heap.size)) := only_alloc hs3 _
                  have HW3 : Hid (w3.grownBy ((((w4.setCell ⟨w3.heap.size, 0, none⟩ (.int .i64 o4)).setCell ⟨w3.heap.size, 1, none⟩ (.string n4)).setCell ⟨w3.heap.size, 2, none⟩ (.slice a4 k4 c4)).alloc (.cells #[.int .i64 o4, .string n4, .slice a4 k4 c4] 24)) (some b)) := only_new HG4.out HW.out (Nat.le_refl _)
                  have HOWNW := hidIt (HOWN3.out.kept HW3.out (fun g e => by injection e with e; omega))
                  have HPW := hidIt (HP4.out.kept HW.out (fun e => by injection e with e; omega) (fun e => by injection e with e; omega))
                  have HKW := hidIt (own_kept (own_kept HK3.out HG4.out (by omega)) HW.out (by omega))
                  have HGW := hidIt (only_trans HG3.out HW3.out)
                  have HNW : Hid (((((w4.setCell ⟨w3.heap.size, 0, none⟩ (.int .i64 o4)).setCell ⟨w3.heap.size, 1, none⟩ (.string n4)).setCell ⟨w3.heap.size, 2, none⟩ (.slice a4 k4 c4)).alloc (.cells #[.int .i64 o4, .string n4, .slice a4 k4 c4] 24)).heap[w4.heap.size]? = some (.cells #[.int .i64 o4, .string n4, .slice a4 k4 c4] 24 (0, 0))) := heap_alloc_at (by simp [World.setCell])
                  have hbw : Hid (w.heap.size + 1 ≤ ((((w4.setCell ⟨w3.heap.size, 0, none⟩ (.int .i64 o4)).setCell ⟨w3.heap.size, 1, none⟩ (.string n4)).setCell ⟨w3.heap.size, 2, none⟩ (.slice a4 k4 c4)).alloc (.cells #[.int .i64 o4, .string n4, .slice a4 k4 c4] 24)).heap.size) := by have := HW3.out.size; show _ ≤ _; omega
                  clear hs3
                  go_wp2_with (at_builtin; refine wpList_append_junk rfl _ _ rfl (w.heap.size + 1) _ l rfl HOWNW.out _ 1 rfl HNW.out (by omega) hbw.out ?_)
                  intro a5 n5 c5 w5 hg5
                  have hob := HOWNW.out.block
                  have HG5 : Hid (w.grownBy w5 (some b)) := by
                    cases hv : (Value.slice av nv cv).ownBlock with
                    | none => rw [hv] at hg5; exact only_trans HGW.out ⟨hg5.os, hg5.tape, hg5.output, hg5.size, fun i hi _ => hg5.block i hi (by simp)⟩
                    | some g => rw [hv] at hg5; exact only_new HGW.out hg5 (by have := (hob g hv).1; omega)
                  have HP5 := hidIt (HPW.out.kept hg5 (fun e => by have := (hob b e).1; omega) (fun e => by have := (hob 0 e).1; omega))
                  have HK5 : Hid (w5.heap[w.heap.size]? = some (.cells #[.int .i64 0, .string ⟨#[]⟩, .slice none 0 0] 24 (0, 0))) := by
                    show _ = _
                    rw [hg5.block _ (lt_of_block HKW.out) (fun e => by have := (hob _ e.symm).1; omega)]
                    exact HKW.out
                  have HGO : Hid (goal = (none, r4)) := by
                    have := HLOOP.out
                    rw [hg', rowLoop_fail HT'.out HRES4.out] at this
                    exact this.symm
                  clear hg5 hob l0 l1 l2 g0 g1 g2
                  go_wp2_with fail
                  go_roundg 0
                  case measure => omega
                  case rel => exact ⟨false, rfl, ⟨⟨a5, n5, c5, rfl⟩, HK5.out, HG5.out, (fun e => by cases e), fun _ => ⟨r4, HP5.out, HGO.out⟩⟩⟩
                | some f4 =>
                  have hs3 := set_three w4 w3.heap.size (.int .i64 o4) (.string n4) (.slice a4 k4 c4)
                  have HW : Hid (w4.grownBy ((((w4.setCell ⟨w3.heap.size, 0, none⟩ (.int .i64 o4)).setCell ⟨w3.heap.size, 1, none⟩ (.string n4)).setCell ⟨w3.heap.size, 2, none⟩ (.slice a4 k4 c4)).alloc (.cells #[.int .i64 o4, .string n4, .slice a4 k4 c4] 24)) (some w3.heap.size)) := only_alloc hs3 _
                  have HW3 : Hid (w3.grownBy ((((w4.setCell ⟨w3.heap.size, 0, none⟩ (.int .i64 o4)).setCell ⟨w3.heap.size, 1, none⟩ (.string n4)).setCell ⟨w3.heap.size, 2, none⟩ (.slice a4 k4 c4)).alloc (.cells #[.int .i64 o4, .string n4, .slice a4 k4 c4] 24)) (some b)) := only_new HG4.out HW.out (Nat.le_refl _)
                  have HOWNW := hidIt (HOWN3.out.kept HW3.out (fun g e => by injection e with e; omega))
                  have HPW := hidIt (HP4.out.kept HW.out (fun e => by injection e with e; omega) (fun e => by injection e with e; omega))
                  have HKW := hidIt (own_kept (own_kept HK3.out HG4.out (by omega)) HW.out (by omega))
                  have HGW := hidIt (only_trans HG3.out HW3.out)
                  have HNW : Hid (((((w4.setCell ⟨w3.heap.size, 0, none⟩ (.int .i64 o4)).setCell ⟨w3.heap.size, 1, none⟩ (.string n4)).setCell ⟨w3.heap.size, 2, none⟩ (.slice a4 k4 c4)).alloc (.cells #[.int .i64 o4, .string n4, .slice a4 k4 c4] 24)).heap[w4.heap.size]? = some (.cells #[.int .i64 o4, .string n4, .slice a4 k4 c4] 24 (0, 0))) := heap_alloc_at (by simp [World.setCell])
                  have hbw : Hid (w.heap.size + 1 ≤ ((((w4.setCell ⟨w3.heap.size, 0, none⟩ (.int .i64 o4)).setCell ⟨w3.heap.size, 1, none⟩ (.string n4)).setCell ⟨w3.heap.size, 2, none⟩ (.slice a4 k4 c4)).alloc (.cells #[.int .i64 o4, .string n4, .slice a4 k4 c4] 24)).heap.size) := by have := HW3.out.size; show _ ≤ _; omega
                  have HFW : Hid (FormIn ((((w4.setCell ⟨w3.heap.size, 0, none⟩ (.int .i64 o4)).setCell ⟨w3.heap.size, 1, none⟩ (.string n4)).setCell ⟨w3.heap.size, 2, none⟩ (.slice a4 k4 c4)).alloc (.cells #[.int .i64 o4, .string n4, .slice a4 k4 c4] 24)) (fun k => w.heap.size + 1 ≤ k ∧ (Value.slice av nv cv).ownBlock ≠ some k) (.agg #[.int .i64 o4, .string n4, .slice a4 k4 c4]) f4) :=
                    (((HF4.out f4 rfl).mono (S' := fun i => w3.heap.size + 1 ≤ i) (fun i _ hi => by simpa using hi)).over (w1 := w3) HW.out (by omega)).mono (fun i _ hi => ⟨by omega, fun e => by have := (HOWN3.out.block i e).2; omega⟩)
                  clear hs3
                  go_wp2_with (at_builtin; refine wpList_append_form rfl _ _ rfl (w.heap.size + 1) _ l rfl HOWNW.out _ 1 rfl HNW.out f4 HFW.out (by omega) hbw.out ?_)
                  intro v5 w5 hown5 hg5 hbl5
                  have hob := HOWNW.out.block
                  have HG5 : Hid (w.grownBy w5 (some b)) := by
                    cases hv : (Value.slice av nv cv).ownBlock with
                    | none => rw [hv] at hg5; exact only_trans HGW.out ⟨hg5.os, hg5.tape, hg5.output, hg5.size, fun i hi _ => hg5.block i hi (by simp)⟩
                    | some g => rw [hv] at hg5; exact only_new HGW.out hg5 (by have := (hob g hv).1; omega)
                  have HP5 := hidIt (HPW.out.kept hg5 (fun e => by have := (hob b e).1; omega) (fun e => by have := (hob 0 e).1; omega))
                  have HK5 : Hid (w5.heap[w.heap.size]? = some (.cells #[.int .i64 0, .string ⟨#[]⟩, .slice none 0 0] 24 (0, 0))) := by
                    show _ = _
                    rw [hg5.block _ (lt_of_block HKW.out) (fun e => by have := (hob _ e.symm).1; omega)]
                    exact HKW.out
                  have HLO : Hid (rowLoop sign SP g' (l ++ [f4]) r4 = goal) := by
                    have := HLOOP.out
                    rw [hg', rowLoop_on HT'.out HRES4.out] at this
                    exact this
                  have HO5 := hidIt hown5
                  have HV5 : Hid (∃ a n c, v5 = Value.slice a n c) := by
                    obtain ⟨a, c, h, -⟩ := hown5.form
                    exact ⟨a, _, c, h⟩
                  have hlen5 := hlen4.out
                  have hnl3 := hnl2.out
                  clear hg5 hob l0 l1 l2 g0 g1 g2 hown5 hbl5
                  go_wp2_with fail
                  go_roundg g'
                  case measure => omega
                  case rel => exact ⟨true, rfl, ⟨HV5.out, HK5.out, HG5.out, fun _ => ⟨l ++ [f4], r4, HP5.out, HO5.out, HLO.out, by omega, by omega, by rw [List.length_append]; simp; omega⟩, fun e => by cases e⟩⟩
            · have hq' : (T'.toList == S.toList) = false := by rw [hTl'.out, HSS.out]; exact beq_eq_false_iff_ne.2 ht'
              have HGO : Hid (goal = (some l, r')) := by
                have := HLOOP.out
                rw [hg', rowLoop_stop ht'] at this
                exact this.symm
              clear ht' hg'
              obtain ⟨a', c', hv, hlc, hcm, hforms⟩ := HOWN.out.form
              injection hv with e1 e2 e3
              subst e1 e2 e3
              have HFORMS := hidIt hforms
              clear hforms
              go_wp2_with fail
              refine bodyPost_ret (v := .tuple #[.agg #[.int .i64 op, .string ⟨#[]⟩, .slice av l.length cv], .bool true]) (by simp [results, Tryz.results142, go_sem, r0, r1', r2, hR]) rfl ?_
              have hgF := set_three wr w.heap.size (.int .i64 op) (.string ⟨#[]⟩) (.slice av l.length cv)
              have HE1 : rowP op sign SP r = (some (.node op ⟨#[]⟩ l), r') := by rw [HE.out, HGO.out]; rfl
              refine ⟨op, ⟨#[]⟩, av, l.length, cv, by rw [HE1]; rfl, fun f' hf => ?_, ?_, only_new hst.out.gr hgF (Nat.le_refl _)⟩
              · rw [HE1] at hf
                obtain rfl := Option.some.inj hf
                refine (FormIn.mk (HFORMS.out.kept fun i hi hl => hgF.block i hl (fun e => by injection e with e; omega)) rfl hI.out nil_le hlc hcm).mono fun i _ hi => by omega
              · rw [HE1]
                exact HP'.out.kept hgF (fun e => by injection e with e; omega) (fun e => by injection e with e; omega)
      · have hq : (T.toList == S.toList) = false := by rw [hTl.out, HSS.out]; exact beq_eq_false_iff_ne.2 ht
        have HE : Hid (rowP op sign SP r = (some f, r1)) := rowP_left HRES.out ht
        clear ht
        go_wp2_with fail
        refine bodyPost_ret (v := .tuple #[.agg #[.int .i64 o1, .string n1, .slice a1 k1 c1], .bool true]) (by simp [results, Tryz.results142, go_sem, r0, r1', r2, hR1]) rfl ?_
        have hgF := only_alloc (set_three w1 w.heap.size (.int .i64 o1) (.string n1) (.slice a1 k1 c1)) (.cells #[.int .i64 o1, .string n1, .slice a1 k1 c1] 24)
        refine ⟨o1, n1, a1, k1, c1, by rw [HE.out]; rfl, fun f' hf => ?_, ?_, only_new HG1.out hgF (Nat.le_refl _)⟩
        · rw [HE.out] at hf
          obtain rfl : f = f' := Option.some.inj hf
          exact (HF.out.over (w1 := w) hgF (by omega)).mono (fun i _ hi => by omega)
        · rw [HE.out]
          exact HP1.out.kept hgF (fun e => by injection e with e; omega) (fun e => by injection e with e; omega)
end Go.Proofs.YtilkpjcbmllgmaaGreatDoor
