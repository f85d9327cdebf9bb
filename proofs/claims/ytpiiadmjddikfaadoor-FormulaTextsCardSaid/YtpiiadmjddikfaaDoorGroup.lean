/- The parser's group and primary. -/
import Derived.Test.YtpiiadmjddikfaaDoorNeg
import Derived.BigRegion
namespace Go.Proofs.YtpiiadmjddikfaaDoor
set_option linter.unusedVariables false
set_option linter.unusedSimpArgs false
open Go.RowKit

theorem closeP_none (r : Rest) : closeP (none, r) = (none, r) := rfl
theorem closeP_yes (f : Tree) {r : Rest} (h : tok r = [41]) : closeP (some f, r) = (some f, nxt r) := by simp [closeP, h]
theorem closeP_no (f : Tree) {r : Rest} (h : ¬ tok r = [41]) : closeP (some f, r) = (none, r) := by simp [closeP, h]

set_option maxRecDepth 100000 in
set_option maxHeartbeats 1000000 in
theorem group_walk (n : Nat) (r : Rest) (heq : POk 41 (pF n 0) (nxt r)) : POk 115 (pF (n + 1) 6) r := by
  intro w b s h
  have hlt := h.lt
  have H := hidIt h
  have HQ := hidIt heq
  have HE0 : Hid (pF (n + 1) 6 r = closeP (pF n 0 (nxt r))) := pF6 n 0 r
  clear heq h
  go_enter Tryd.func115, Tryd.ntmps115
  go_wp2_with fail
  refine (next_at (H.out.alloc _)).mono ?_
  rintro e w1 ⟨rfl, hp1, hg1⟩
  have HP1 := hidIt hp1
  have HG1 : Hid (w.grownBy w1 (some b)) := only_trans (only_alloc (only_refl _ _) _) hg1
  have HK1 := hidIt (own_kept (heap_alloc_new w _) hg1 (by omega))
  have hlt1 := hp1.lt
  clear hp1 hg1
  go_wp2_with fail
  refine (HQ.out w1 b s HP1.out).mono ?_
  rintro e w2 ⟨op, nm, a, k, c, rfl, hf, hp2, hg2⟩
  cases hres : pF n 0 (nxt r) with
  | mk o r1 =>
    rw [hres] at hf hp2
    have HE : Hid (pF (n + 1) 6 r = closeP (o, r1)) := HE0.out.trans (by rw [hres])
    simp only at hf hp2
    have HG2 := hidIt (only_trans HG1.out hg2)
    have HK2 := hidIt (own_kept HK1.out hg2 (by omega))
    have hlt2 := hp2.lt
    have hsz1 := HG1.out.size
    have hsz2 := hg2.size
    have hR1 := lt_of_block HK1.out
    have hR := lt_of_block HK2.out
    obtain ⟨r0, r1', r2⟩ := cell_of3 HK2.out
    obtain ⟨f0, f1, f2⟩ := cells_free HK2.out
    obtain ⟨-, c2⟩ := hp2.cells
    have HP2 := hidIt hp2
    have HF2 := hidIt hf
    clear hf hg2 hres HE0 hp2
    obtain ⟨T, hT⟩ : ∃ T, T = (⟨(tok r1).toArray⟩ : ByteArray) := ⟨_, rfl⟩
    have hTl : T.toList = tok r1 := by rw [hT, Lib.toList_data]
    rw [← hT] at c2
    clear hT
    cases o with
    | none =>
      clear hTl
      have HE1 : Hid (pF (n + 1) 6 r = (none, r1)) := HE.out.trans (closeP_none r1)
      go_wp2_with fail
      refine bodyPost_ret (v := .tuple #[.agg #[.int .i64 op, .string nm, .slice a k c], .bool false]) (by simp [results, Tryd.results115, go_sem, r0, r1', r2, hR]) rfl ?_
      have hgF := only_alloc (set_three w2 w.heap.size (.int .i64 op) (.string nm) (.slice a k c)) (.cells #[.int .i64 op, .string nm, .slice a k c] 24)
      refine ⟨op, nm, a, k, c, by rw [HE1.out]; rfl, fun f hf => ?_, ?_, only_new HG2.out hgF (Nat.le_refl _)⟩
      · rw [HE1.out] at hf; cases hf
      · rw [HE1.out]
        exact HP2.out.kept hgF (fun e => by injection e with e; omega) (fun e => by injection e with e; omega)
    | some f =>
      have HF := hidIt (HF2.out f rfl)
      by_cases ht : tok r1 = [41]
      · have hq : (T.toList == [41]) = true := by rw [hTl, ht]; rfl
        have HE1 : Hid (pF (n + 1) 6 r = (some f, nxt r1)) := HE.out.trans (closeP_yes f ht)
        clear hTl ht
        go_wp2_with fail
        refine (next_at (HP2.out.alloc _)).mono ?_
        rintro e w3 ⟨rfl, hp3, hg3⟩
        have HG3a := hidIt (only_trans (only_alloc (only_refl w2 (some b)) _) hg3)
        have HG3 := hidIt (only_trans HG2.out HG3a.out)
        have HL3 := own_kept (heap_alloc_new w2 _) hg3 (by omega)
        have HK3 := hidIt (own_kept HK2.out HG3a.out (by omega))
        obtain ⟨l0, l1, l2⟩ := cell_of3 HL3
        have hL := lt_of_block HL3
        clear r0 r1' r2 f0 f1 f2 hR
        have hR := lt_of_block HK3.out
        obtain ⟨r0, r1', r2⟩ := cell_of3 HK3.out
        obtain ⟨f0, f1, f2⟩ := cells_free HK3.out
        have HP3 := hidIt hp3
        have HF3 := hidIt (HF.out.over (w1 := w1) HG3a.out hlt1)
        clear hp3 hg3 HL3 c2
        go_wp2_with fail
        refine bodyPost_ret (v := .tuple #[.agg #[.int .i64 op, .string nm, .slice a k c], .bool true]) (by simp [results, Tryd.results115, go_sem, r0, r1', r2, hR]) rfl ?_
        have hgF := set_three w3 w.heap.size (.int .i64 op) (.string nm) (.slice a k c)
        refine ⟨op, nm, a, k, c, by rw [HE1.out]; rfl, fun f' hf => ?_, ?_, only_new HG3.out hgF (Nat.le_refl _)⟩
        · rw [HE1.out] at hf
          obtain rfl : f = f' := Option.some.inj hf
          exact (HF3.out.over (w1 := w1) hgF hR1).mono (fun i _ hi => Nat.le_trans hsz1 hi)
        · rw [HE1.out]
          exact HP3.out.kept hgF (fun e => by injection e with e; omega) (fun e => by injection e with e; omega)
      · have hq : (T.toList == [41]) = false := by rw [hTl]; exact beq_eq_false_iff_ne.2 ht
        have HE1 : Hid (pF (n + 1) 6 r = (none, r1)) := HE.out.trans (closeP_no f ht)
        clear hTl ht
        go_wp2_with fail
        refine bodyPost_ret (v := .tuple #[.agg #[.int .i64 op, .string nm, .slice a k c], .bool false]) (by simp [results, Tryd.results115, go_sem, r0, r1', r2, hR]) rfl ?_
        have hgF := only_alloc (set_three w2 w.heap.size (.int .i64 op) (.string nm) (.slice a k c)) (.cells #[.int .i64 op, .string nm, .slice a k c] 24)
        refine ⟨op, nm, a, k, c, by rw [HE1.out]; rfl, fun f hf => ?_, ?_, only_new HG2.out hgF (Nat.le_refl _)⟩
        · rw [HE1.out] at hf; cases hf
        · rw [HE1.out]
          exact HP2.out.kept hgF (fun e => by injection e with e; omega) (fun e => by injection e with e; omega)

theorem i64_one {n : Int} (h : n = 1 ∨ n = 2 ∨ n = 3) : I64 n := by unfold I64; omega

set_option maxRecDepth 100000 in
set_option maxHeartbeats 2000000 in
theorem prim_walk (n : Nat) (r : Rest) (hgr : tok r = [40] → POk 115 (pF n 6) r) : POk 113 (pF (n + 1) 5) r := by
  intro w b s h
  obtain ⟨c0, c2⟩ := h.cells
  have hlt := h.lt
  have H := hidIt h
  have HGr := hidIt hgr
  obtain ⟨T, hT⟩ : ∃ T, T = (⟨(tok r).toArray⟩ : ByteArray) := ⟨_, rfl⟩
  have hTl : T.toList = tok r := by rw [hT, Lib.toList_data]
  rw [← hT] at c2
  have hT' := hidIt hT
  clear hT hgr h
  by_cases h40 : tok r = [40]
  · have HE : Hid (pF (n + 1) 5 r = pF n 6 r) := by show _ = _; rw [pF5, if_pos h40]
    have hq : (T.toList == [40]) = true := by rw [hTl, h40]; rfl
    have HT40 := hidIt h40
    clear hTl h40
    go_enter Tryd.func113, Tryd.ntmps113
    go_wp2_with fail
    refine (HGr.out HT40.out _ b s ((H.out.alloc _).alloc _)).mono ?_
    rintro e w2 ⟨op, nm, a, k, c, rfl, hf, hp2, hg2⟩
    have HF2 := hidIt hf
    have HP2 := hidIt hp2
    have HG2 : Hid (w.grownBy w2 (some b)) := only_trans (only_alloc (only_alloc (only_refl _ _) _) _) hg2
    have HK2 := hidIt (own_kept (own_kept (heap_alloc_new w _) (only_alloc (only_refl _ (some b)) _) (by omega)) hg2 (by omega))
    have hR := lt_of_block HK2.out
    obtain ⟨r0, r1, r2⟩ := cell_of3 HK2.out
    obtain ⟨f0, f1, f2⟩ := cells_free HK2.out
    clear hf hp2 hg2
    generalize hok : (pF n 6 r).1.isSome = okb at *
    have HOK := hidIt hok
    clear hok
    go_wp2_with fail
    refine bodyPost_ret (v := .tuple #[.agg #[.int .i64 op, .string nm, .slice a k c], .bool okb]) (by simp [results, Tryd.results113, go_sem, r0, r1, r2, hR]) rfl ?_
    have hgF := set_three w2 w.heap.size (.int .i64 op) (.string nm) (.slice a k c)
    refine ⟨op, nm, a, k, c, by rw [HE.out, HOK.out], fun f hf => ?_, ?_, only_new HG2.out hgF (Nat.le_refl _)⟩
    · rw [HE.out] at hf
      exact ((HF2.out f hf).over (w1 := w) hgF (by simp; omega)).mono (fun i _ hi => by simp at hi; omega)
    · rw [HE.out]
      exact HP2.out.kept hgF (fun e => by injection e with e; omega) (fun e => by injection e with e; omega)
  have q40 : (T.toList == [40]) = false := by rw [hTl]; exact beq_eq_false_iff_ne.2 h40
  by_cases h48 : tok r = [48]
  · have HE : Hid (pF (n + 1) 5 r = (some (.node 2 ⟨#[]⟩ []), nxt r)) := by show _ = _; rw [pF5, if_neg h40, if_pos h48]
    have hq : (T.toList == [48]) = true := by rw [hTl, h48]; rfl
    clear hTl h40 h48
    go_enter Tryd.func113, Tryd.ntmps113
    go_wp2_with fail
    refine (next_at ((H.out.alloc _).alloc _)).mono ?_
    rintro e w2 ⟨rfl, hp2, hg2⟩
    have HP2 := hidIt hp2
    have HG2 : Hid (w.grownBy w2 (some b)) := only_trans (only_alloc (only_alloc (only_refl _ _) _) _) hg2
    have HK2 := hidIt (own_kept (own_kept (heap_alloc_new w _) (only_alloc (only_refl _ (some b)) _) (by omega)) hg2 (by omega))
    have HV2 := own_kept (heap_alloc_at (by simp)) hg2 (i := w.heap.size + 1) (by omega)
    have hR := lt_of_block HK2.out
    have hV := lt_of_block HV2
    obtain ⟨r0, r1, r2⟩ := cell_of3 HK2.out
    obtain ⟨f0, f1, f2⟩ := cells_free HK2.out
    obtain ⟨v0, v1, v2⟩ := cell_of3 HV2
    clear hp2 hg2 HV2 c0 c2
    go_wp2_with fail
    refine bodyPost_ret (v := .tuple #[.agg #[.int .i64 2, .string ⟨#[]⟩, .slice none 0 0], .bool true]) (by simp [results, Tryd.results113, go_sem, r0, r1, r2, hR]) rfl ?_
    have hgF := set_three w2 w.heap.size (.int .i64 2) (.string ⟨#[]⟩) (.slice none 0 0)
    refine ⟨2, ⟨#[]⟩, none, 0, 0, by rw [HE.out]; rfl, fun f hf => ?_, ?_, only_new HG2.out hgF (Nat.le_refl _)⟩
    · rw [HE.out] at hf
      obtain rfl := Option.some.inj hf
      exact FormIn.mk (FormsIn.nil none) rfl (i64_one (by omega)) nil_le (Nat.le_refl _) (Nat.zero_le _)
    · rw [HE.out]
      exact HP2.out.kept hgF (fun e => by injection e with e; omega) (fun e => by injection e with e; omega)
  have q48 : (T.toList == [48]) = false := by rw [hTl]; exact beq_eq_false_iff_ne.2 h48
  by_cases h49 : tok r = [49]
  · have HE : Hid (pF (n + 1) 5 r = (some (.node 1 ⟨#[]⟩ []), nxt r)) := by show _ = _; rw [pF5, if_neg h40, if_neg h48, if_pos h49]
    have hq : (T.toList == [49]) = true := by rw [hTl, h49]; rfl
    clear hTl h40 h48 h49
    go_enter Tryd.func113, Tryd.ntmps113
    go_wp2_with fail
    refine (next_at ((H.out.alloc _).alloc _)).mono ?_
    rintro e w2 ⟨rfl, hp2, hg2⟩
    have HP2 := hidIt hp2
    have HG2 : Hid (w.grownBy w2 (some b)) := only_trans (only_alloc (only_alloc (only_refl _ _) _) _) hg2
    have HK2 := hidIt (own_kept (own_kept (heap_alloc_new w _) (only_alloc (only_refl _ (some b)) _) (by omega)) hg2 (by omega))
    have HV2 := own_kept (heap_alloc_at (by simp)) hg2 (i := w.heap.size + 1) (by omega)
    have hR := lt_of_block HK2.out
    have hV := lt_of_block HV2
    obtain ⟨r0, r1, r2⟩ := cell_of3 HK2.out
    obtain ⟨f0, f1, f2⟩ := cells_free HK2.out
    obtain ⟨v0, v1, v2⟩ := cell_of3 HV2
    clear hp2 hg2 HV2 c0 c2
    go_wp2_with fail
    refine bodyPost_ret (v := .tuple #[.agg #[.int .i64 1, .string ⟨#[]⟩, .slice none 0 0], .bool true]) (by simp [results, Tryd.results113, go_sem, r0, r1, r2, hR]) rfl ?_
    have hgF := set_three w2 w.heap.size (.int .i64 1) (.string ⟨#[]⟩) (.slice none 0 0)
    refine ⟨1, ⟨#[]⟩, none, 0, 0, by rw [HE.out]; rfl, fun f hf => ?_, ?_, only_new HG2.out hgF (Nat.le_refl _)⟩
    · rw [HE.out] at hf
      obtain rfl := Option.some.inj hf
      exact FormIn.mk (FormsIn.nil none) rfl (i64_one (by omega)) nil_le (Nat.le_refl _) (Nat.zero_le _)
    · rw [HE.out]
      exact HP2.out.kept hgF (fun e => by injection e with e; omega) (fun e => by injection e with e; omega)
  have q49 : (T.toList == [49]) = false := by rw [hTl]; exact beq_eq_false_iff_ne.2 h49
  have hTs : T.size ≤ maxLen := by
    rw [hT'.out, mk_size]
    have h1 := tok_len r
    have h2 := H.out.len
    unfold maxLen
    omega
  cases hvn : vn T
  · have HE : Hid (pF (n + 1) 5 r = (none, r)) := by show _ = _; rw [pF5, if_neg h40, if_neg h48, if_neg h49, if_neg (by rw [← hT'.out, hvn]; exact Bool.false_ne_true)]
    have HV := hidIt hvn
    clear hTl h40 h48 h49 hvn
    go_enter Tryd.func113, Tryd.ntmps113
    go_wp2_with fail
    refine (validName_any T _ hTs).mono ?_
    rintro e w' ⟨rfl, rfl⟩
    rw [HV.out]
    go_wp2_with fail
    refine bodyPost_ret (v := .tuple #[.agg #[.int .i64 0, .string ⟨#[]⟩, .slice none 0 0], .bool false]) (by simp [results, Tryd.results113, go_sem]) rfl ?_
    have hgF : w.grownBy ((w.alloc (.cells #[.int .i64 0, .string ⟨#[]⟩, .slice none 0 0] 24)).alloc (.cells #[.int .i64 0, .string ⟨#[]⟩, .slice none 0 0] 24)) (some b) := only_alloc (only_alloc (only_refl _ _) _) _
    refine ⟨0, ⟨#[]⟩, none, 0, 0, by rw [HE.out]; rfl, fun f hf => ?_, ?_, hgF⟩
    · rw [HE.out] at hf; cases hf
    · rw [HE.out]
      exact (H.out.alloc _).alloc _
  · have HE : Hid (pF (n + 1) 5 r = (some (.node 3 T []), nxt r)) := by show _ = _; rw [pF5, if_neg h40, if_neg h48, if_neg h49, if_pos (by rw [← hT'.out, hvn]), ← hT'.out]
    have HV := hidIt hvn
    clear hTl h40 h48 h49 hvn
    go_enter Tryd.func113, Tryd.ntmps113
    go_wp2_with fail
    refine (validName_any T _ hTs).mono ?_
    rintro e w' ⟨rfl, rfl⟩
    rw [HV.out]
    go_wp2_with fail
    go_big_region
    go_wp2_with fail
    refine (next_at (((H.out.alloc _).alloc _).go (Below.refl _ _).drew)).mono ?_
    rintro e w2 ⟨rfl, hp2, hg2⟩
    have HP2 := hidIt hp2
    have HG2 : Hid (w.grownBy w2 (some b)) := only_trans (only_drewN (only_alloc (only_alloc (only_refl _ _) _) _) 1) hg2
    have hk0 : ((w.alloc (.cells #[.int .i64 0, .string ⟨#[]⟩, .slice none 0 0] 24)).alloc (.cells #[.int .i64 3, .string T, .slice none 0 0] 24)).drew.heap[w.heap.size]? = some (.cells #[.int .i64 0, .string ⟨#[]⟩, .slice none 0 0] 24 (0, 0)) := (Below.heap_alloc (w.alloc (.cells #[.int .i64 0, .string ⟨#[]⟩, .slice none 0 0] 24)) (.cells #[.int .i64 3, .string T, .slice none 0 0] 24) w.heap.size (by simp)).trans (heap_alloc_new w _)
    have hv0 : ((w.alloc (.cells #[.int .i64 0, .string ⟨#[]⟩, .slice none 0 0] 24)).alloc (.cells #[.int .i64 3, .string T, .slice none 0 0] 24)).drew.heap[w.heap.size + 1]? = some (.cells #[.int .i64 3, .string T, .slice none 0 0] 24 (0, 0)) := heap_alloc_at (by simp)
    have HK2 := hidIt (own_kept hk0 hg2 (by omega))
    have HV2 := own_kept hv0 hg2 (by omega)
    clear hk0 hv0
    have hR := lt_of_block HK2.out
    have hV := lt_of_block HV2
    obtain ⟨r0, r1, r2⟩ := cell_of3 HK2.out
    obtain ⟨f0, f1, f2⟩ := cells_free HK2.out
    obtain ⟨v0, v1, v2⟩ := cell_of3 HV2
    clear hp2 hg2 HV2 c0 c2
    go_wp2_with fail
    refine bodyPost_ret (v := .tuple #[.agg #[.int .i64 3, .string T, .slice none 0 0], .bool true]) (by simp [results, Tryd.results113, go_sem, r0, r1, r2, hR]) rfl ?_
    have hgF := set_three w2 w.heap.size (.int .i64 3) (.string T) (.slice none 0 0)
    refine ⟨3, T, none, 0, 0, by rw [HE.out]; rfl, fun f hf => ?_, ?_, only_new HG2.out hgF (Nat.le_refl _)⟩
    · rw [HE.out] at hf
      obtain rfl := Option.some.inj hf
      exact FormIn.mk (FormsIn.nil none) rfl (i64_one (by omega)) hTs (Nat.le_refl _) (Nat.zero_le _)
    · rw [HE.out]
      exact HP2.out.kept hgF (fun e => by injection e with e; omega) (fun e => by injection e with e; omega)
end Go.Proofs.YtpiiadmjddikfaaDoor
