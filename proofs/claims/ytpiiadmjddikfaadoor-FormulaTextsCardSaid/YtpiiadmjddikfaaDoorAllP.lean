/- The parser's functions by the size of the rest: all of them read what the specification says. -/
import Derived.Test.YtpiiadmjddikfaaDoorRowP
namespace Go.Proofs.YtpiiadmjddikfaaDoor
set_option linter.unusedVariables false
set_option linter.unusedSimpArgs false
open Go.RowKit

theorem enters_impl : Enters 60 := enters_of Tryd.func60 (by kernel_rfl) rfl
theorem enters_disj : Enters 77 := enters_of Tryd.func77 (by kernel_rfl) rfl
theorem enters_conj : Enters 88 := enters_of Tryd.func88 (by kernel_rfl) rfl
theorem enters_neg : Enters 103 := enters_of Tryd.func103 (by kernel_rfl) rfl
theorem ba_toList (l : List UInt8) : (⟨l.toArray⟩ : ByteArray).toList = l := by rw [Lib.toList_data]

set_option maxRecDepth 100000 in
set_option maxHeartbeats 1000000 in
theorem equiv_walk (n : Nat) (r : Rest) (h0 : POk 60 (pF n 1) r) (h1 : ∀ r', r'.length < r.length → POk 60 (pF n 1) r') : POk 41 (pF (n + 1) 0) r := by
  intro w b s h
  have hlt := h.lt
  have H := hidIt h
  have hmf : ∀ (fn : Fn) (first cap : Array Value) (w : World), (Instr.makeFunc fn first cap).run Tryd.prog w = .ok (.func fn first cap) w := fun _ _ _ _ => rfl
  have HC : Hid (Calls Tryd.prog 59 #[.pointer (some ⟨b, 0, none⟩), .int .i64 8, .string ⟨#[60, 45, 62]⟩, .func (.func 60) #[.pointer (some ⟨b, 0, none⟩)] #[], .func (.func 60) #[.pointer (some ⟨b, 0, none⟩)] #[]] (w.alloc (.cells #[.int .i64 0, .string ⟨#[]⟩, .slice none 0 0] 24)) (PPost (w.alloc (.cells #[.int .i64 0, .string ⟨#[]⟩, .slice none 0 0] 24)) b s (pairP 8 [60, 45, 62] (pF n 1) (pF n 1) r))) := pair_walk 8 (by omega) (by omega) [60, 45, 62] ⟨#[60, 45, 62]⟩ (ba_toList [60, 45, 62]) (by decide) _ _ enters_impl enters_impl (pF n 1) (pF n 1) r h0 h1 (pF_len n 1 r) _ b s (h.alloc _)
  have HE : Hid (pF (n + 1) 0 r = pairP 8 [60, 45, 62] (pF n 1) (pF n 1) r) := rfl
  clear h
  go_enter Tryd.func41, Tryd.ntmps41
  go_wp2_with fail
  refine HC.out.mono ?_
  rintro e w2 ⟨op, nm, a, k, c, rfl, hf, hp2, hg2⟩
  have HF2 := hidIt hf
  have HP2 := hidIt hp2
  have HG2 : Hid (w.grownBy w2 (some b)) := only_trans (only_alloc (only_refl _ _) _) hg2
  have HK2 := hidIt (own_kept (heap_alloc_new w _) hg2 (by omega))
  have hR := lt_of_block HK2.out
  obtain ⟨r0, r1, r2⟩ := cell_of3 HK2.out
  obtain ⟨f0, f1, f2⟩ := cells_free HK2.out
  clear hf hp2 hg2 hmf HC
  generalize hok : (pairP 8 [60, 45, 62] (pF n 1) (pF n 1) r).1.isSome = okb at *
  have HOK := hidIt hok
  clear hok
  go_wp2_with fail
  refine bodyPost_ret (v := .tuple #[.agg #[.int .i64 op, .string nm, .slice a k c], .bool okb]) (by simp [results, Tryd.results41, go_sem, r0, r1, r2, hR]) rfl ?_
  have hgF := set_three w2 w.heap.size (.int .i64 op) (.string nm) (.slice a k c)
  refine ⟨op, nm, a, k, c, by rw [HE.out, HOK.out], fun f hf => ?_, ?_, only_new HG2.out hgF (Nat.le_refl _)⟩
  · rw [HE.out] at hf
    exact ((HF2.out f hf).over (w1 := w) hgF (by simp)).mono (fun i _ hi => by simp at hi; omega)
  · rw [HE.out]
    exact HP2.out.kept hgF (fun e => by injection e with e; omega) (fun e => by injection e with e; omega)

set_option maxRecDepth 100000 in
set_option maxHeartbeats 1000000 in
theorem impl_walk (n : Nat) (r : Rest) (h0 : POk 77 (pF n 2) r) (h1 : ∀ r', r'.length < r.length → POk 60 (pF n 1) r') : POk 60 (pF (n + 1) 1) r := by
  intro w b s h
  have hlt := h.lt
  have H := hidIt h
  have hmf : ∀ (fn : Fn) (first cap : Array Value) (w : World), (Instr.makeFunc fn first cap).run Tryd.prog w = .ok (.func fn first cap) w := fun _ _ _ _ => rfl
  have HC : Hid (Calls Tryd.prog 59 #[.pointer (some ⟨b, 0, none⟩), .int .i64 7, .string ⟨#[45, 62]⟩, .func (.func 77) #[.pointer (some ⟨b, 0, none⟩)] #[], .func (.func 60) #[.pointer (some ⟨b, 0, none⟩)] #[]] (w.alloc (.cells #[.int .i64 0, .string ⟨#[]⟩, .slice none 0 0] 24)) (PPost (w.alloc (.cells #[.int .i64 0, .string ⟨#[]⟩, .slice none 0 0] 24)) b s (pairP 7 [45, 62] (pF n 2) (pF n 1) r))) := pair_walk 7 (by omega) (by omega) [45, 62] ⟨#[45, 62]⟩ (ba_toList [45, 62]) (by decide) _ _ enters_disj enters_impl (pF n 2) (pF n 1) r h0 h1 (pF_len n 2 r) _ b s (h.alloc _)
  have HE : Hid (pF (n + 1) 1 r = pairP 7 [45, 62] (pF n 2) (pF n 1) r) := rfl
  clear h
  go_enter Tryd.func60, Tryd.ntmps60
  go_wp2_with fail
  refine HC.out.mono ?_
  rintro e w2 ⟨op, nm, a, k, c, rfl, hf, hp2, hg2⟩
  have HF2 := hidIt hf
  have HP2 := hidIt hp2
  have HG2 : Hid (w.grownBy w2 (some b)) := only_trans (only_alloc (only_refl _ _) _) hg2
  have HK2 := hidIt (own_kept (heap_alloc_new w _) hg2 (by omega))
  have hR := lt_of_block HK2.out
  obtain ⟨r0, r1, r2⟩ := cell_of3 HK2.out
  obtain ⟨f0, f1, f2⟩ := cells_free HK2.out
  clear hf hp2 hg2 hmf HC
  generalize hok : (pairP 7 [45, 62] (pF n 2) (pF n 1) r).1.isSome = okb at *
  have HOK := hidIt hok
  clear hok
  go_wp2_with fail
  refine bodyPost_ret (v := .tuple #[.agg #[.int .i64 op, .string nm, .slice a k c], .bool okb]) (by simp [results, Tryd.results60, go_sem, r0, r1, r2, hR]) rfl ?_
  have hgF := set_three w2 w.heap.size (.int .i64 op) (.string nm) (.slice a k c)
  refine ⟨op, nm, a, k, c, by rw [HE.out, HOK.out], fun f hf => ?_, ?_, only_new HG2.out hgF (Nat.le_refl _)⟩
  · rw [HE.out] at hf
    exact ((HF2.out f hf).over (w1 := w) hgF (by simp)).mono (fun i _ hi => by simp at hi; omega)
  · rw [HE.out]
    exact HP2.out.kept hgF (fun e => by injection e with e; omega) (fun e => by injection e with e; omega)

set_option maxRecDepth 100000 in
set_option maxHeartbeats 1000000 in
theorem disj_walk (n : Nat) (r : Rest) (h0 : POk 88 (pF n 3) r) (h1 : ∀ r', r'.length < r.length → POk 88 (pF n 3) r') : POk 77 (pF (n + 1) 2) r := by
  intro w b s h
  have hlt := h.lt
  have H := hidIt h
  have hmf : ∀ (fn : Fn) (first cap : Array Value) (w : World), (Instr.makeFunc fn first cap).run Tryd.prog w = .ok (.func fn first cap) w := fun _ _ _ _ => rfl
  have HC : Hid (Calls Tryd.prog 87 #[.pointer (some ⟨b, 0, none⟩), .int .i64 6, .string ⟨#[124]⟩, .func (.func 88) #[.pointer (some ⟨b, 0, none⟩)] #[]] (w.alloc (.cells #[.int .i64 0, .string ⟨#[]⟩, .slice none 0 0] 24)) (PPost (w.alloc (.cells #[.int .i64 0, .string ⟨#[]⟩, .slice none 0 0] 24)) b s (rowP 6 [124] (pF n 3) r))) := row_walk 6 (by omega) (by omega) [124] ⟨#[124]⟩ (ba_toList [124]) (by decide) _ enters_conj (pF n 3) r h0 h1 (pF_len n 3) _ b s (h.alloc _)
  have HE : Hid (pF (n + 1) 2 r = rowP 6 [124] (pF n 3) r) := rfl
  clear h
  go_enter Tryd.func77, Tryd.ntmps77
  go_wp2_with fail
  refine HC.out.mono ?_
  rintro e w2 ⟨op, nm, a, k, c, rfl, hf, hp2, hg2⟩
  have HF2 := hidIt hf
  have HP2 := hidIt hp2
  have HG2 : Hid (w.grownBy w2 (some b)) := only_trans (only_alloc (only_refl _ _) _) hg2
  have HK2 := hidIt (own_kept (heap_alloc_new w _) hg2 (by omega))
  have hR := lt_of_block HK2.out
  obtain ⟨r0, r1, r2⟩ := cell_of3 HK2.out
  obtain ⟨f0, f1, f2⟩ := cells_free HK2.out
  clear hf hp2 hg2 hmf HC
  generalize hok : (rowP 6 [124] (pF n 3) r).1.isSome = okb at *
  have HOK := hidIt hok
  clear hok
  go_wp2_with fail
  refine bodyPost_ret (v := .tuple #[.agg #[.int .i64 op, .string nm, .slice a k c], .bool okb]) (by simp [results, Tryd.results77, go_sem, r0, r1, r2, hR]) rfl ?_
  have hgF := set_three w2 w.heap.size (.int .i64 op) (.string nm) (.slice a k c)
  refine ⟨op, nm, a, k, c, by rw [HE.out, HOK.out], fun f hf => ?_, ?_, only_new HG2.out hgF (Nat.le_refl _)⟩
  · rw [HE.out] at hf
    exact ((HF2.out f hf).over (w1 := w) hgF (by simp)).mono (fun i _ hi => by simp at hi; omega)
  · rw [HE.out]
    exact HP2.out.kept hgF (fun e => by injection e with e; omega) (fun e => by injection e with e; omega)

set_option maxRecDepth 100000 in
set_option maxHeartbeats 1000000 in
theorem conj_walk (n : Nat) (r : Rest) (h0 : POk 103 (pF n 4) r) (h1 : ∀ r', r'.length < r.length → POk 103 (pF n 4) r') : POk 88 (pF (n + 1) 3) r := by
  intro w b s h
  have hlt := h.lt
  have H := hidIt h
  have hmf : ∀ (fn : Fn) (first cap : Array Value) (w : World), (Instr.makeFunc fn first cap).run Tryd.prog w = .ok (.func fn first cap) w := fun _ _ _ _ => rfl
  have HC : Hid (Calls Tryd.prog 87 #[.pointer (some ⟨b, 0, none⟩), .int .i64 5, .string ⟨#[38]⟩, .func (.func 103) #[.pointer (some ⟨b, 0, none⟩)] #[]] (w.alloc (.cells #[.int .i64 0, .string ⟨#[]⟩, .slice none 0 0] 24)) (PPost (w.alloc (.cells #[.int .i64 0, .string ⟨#[]⟩, .slice none 0 0] 24)) b s (rowP 5 [38] (pF n 4) r))) := row_walk 5 (by omega) (by omega) [38] ⟨#[38]⟩ (ba_toList [38]) (by decide) _ enters_neg (pF n 4) r h0 h1 (pF_len n 4) _ b s (h.alloc _)
  have HE : Hid (pF (n + 1) 3 r = rowP 5 [38] (pF n 4) r) := rfl
  clear h
  go_enter Tryd.func88, Tryd.ntmps88
  go_wp2_with fail
  refine HC.out.mono ?_
  rintro e w2 ⟨op, nm, a, k, c, rfl, hf, hp2, hg2⟩
  have HF2 := hidIt hf
  have HP2 := hidIt hp2
  have HG2 : Hid (w.grownBy w2 (some b)) := only_trans (only_alloc (only_refl _ _) _) hg2
  have HK2 := hidIt (own_kept (heap_alloc_new w _) hg2 (by omega))
  have hR := lt_of_block HK2.out
  obtain ⟨r0, r1, r2⟩ := cell_of3 HK2.out
  obtain ⟨f0, f1, f2⟩ := cells_free HK2.out
  clear hf hp2 hg2 hmf HC
  generalize hok : (rowP 5 [38] (pF n 4) r).1.isSome = okb at *
  have HOK := hidIt hok
  clear hok
  go_wp2_with fail
  refine bodyPost_ret (v := .tuple #[.agg #[.int .i64 op, .string nm, .slice a k c], .bool okb]) (by simp [results, Tryd.results88, go_sem, r0, r1, r2, hR]) rfl ?_
  have hgF := set_three w2 w.heap.size (.int .i64 op) (.string nm) (.slice a k c)
  refine ⟨op, nm, a, k, c, by rw [HE.out, HOK.out], fun f hf => ?_, ?_, only_new HG2.out hgF (Nat.le_refl _)⟩
  · rw [HE.out] at hf
    exact ((HF2.out f hf).over (w1 := w) hgF (by simp)).mono (fun i _ hi => by simp at hi; omega)
  · rw [HE.out]
    exact HP2.out.kept hgF (fun e => by injection e with e; omega) (fun e => by injection e with e; omega)

/-- All methods, where so many calls are enough. -/
structure AllOk (n : Nat) : Prop where
  eqv : ∀ r : Rest, 8 * r.length + 7 ≤ n → POk 41 (pF n 0) r
  imp : ∀ r : Rest, 8 * r.length + 6 ≤ n → POk 60 (pF n 1) r
  dis : ∀ r : Rest, 8 * r.length + 5 ≤ n → POk 77 (pF n 2) r
  con : ∀ r : Rest, 8 * r.length + 4 ≤ n → POk 88 (pF n 3) r
  neg : ∀ r : Rest, 8 * r.length + 3 ≤ n → POk 103 (pF n 4) r
  pri : ∀ r : Rest, 8 * r.length + 2 ≤ n → POk 113 (pF n 5) r
  grp : ∀ r : Rest, 8 * r.length + 1 ≤ n → 0 < (tok r).length → POk 115 (pF n 6) r

theorem all_ok : ∀ n, AllOk n := by
  intro n
  induction n with
  | zero => exact ⟨fun r h => by omega, fun r h => by omega, fun r h => by omega, fun r h => by omega, fun r h => by omega, fun r h => by omega, fun r h => by omega⟩
  | succ n ih =>
    refine ⟨fun r h => equiv_walk n r (ih.imp r (by omega)) (fun r' h' => ih.imp r' (by omega)), fun r h => impl_walk n r (ih.dis r (by omega)) (fun r' h' => ih.imp r' (by omega)),
      fun r h => disj_walk n r (ih.con r (by omega)) (fun r' h' => ih.con r' (by omega)), fun r h => conj_walk n r (ih.neg r (by omega)) (fun r' h' => ih.neg r' (by omega)),
      fun r h => neg_walk n r (fun r' h' => ih.neg r' (by omega)) (ih.pri r (by omega)), fun r h => ?_, fun r h ht => group_walk n r (ih.eqv (nxt r) (by have := nxt_len r; omega))⟩
    by_cases ht : 0 < (tok r).length
    · exact prim_walk n r (fun _ => ih.grp r (by omega) ht)
    · exact prim_walk n r (fun e => absurd (by rw [e]; decide) ht)
end Go.Proofs.YtpiiadmjddikfaaDoor
