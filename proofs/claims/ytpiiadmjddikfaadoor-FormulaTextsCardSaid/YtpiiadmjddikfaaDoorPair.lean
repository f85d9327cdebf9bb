/- The parser's pair. -/
import Derived.Test.YtpiiadmjddikfaaDoorGroup
namespace Go.Proofs.YtpiiadmjddikfaaDoor
set_option linter.unusedVariables false
set_option linter.unusedSimpArgs false
open Go.RowKit

theorem pairP_none {op : Int} {sign : Rest} {SL SR : Rest → Option Tree × Rest} {r r1 : Rest} (h : SL r = (none, r1)) : pairP op sign SL SR r = (none, r1) := by unfold pairP; rw [h]
theorem pairP_left {op : Int} {sign : Rest} {SL SR : Rest → Option Tree × Rest} {r r1 : Rest} {f : Tree} (h : SL r = (some f, r1)) (ht : ¬ tok r1 = sign) : pairP op sign SL SR r = (some f, r1) := by
  unfold pairP; rw [h]; simp only; rw [if_neg ht]
/-- Both parts. -/
def bothP (op : Int) (f : Tree) : Option Tree × Rest → Option Tree × Rest
  | (some g, r) => (some (.node op ⟨#[]⟩ [f, g]), r)
  | (none, r) => (none, r)
theorem pairP_both {op : Int} {sign : Rest} {SL SR : Rest → Option Tree × Rest} {r r1 : Rest} {f : Tree} (h : SL r = (some f, r1)) (ht : tok r1 = sign) : pairP op sign SL SR r = bothP op f (SR (nxt r1)) := by
  unfold pairP; rw [h]; simp only; rw [if_pos ht]; rfl
theorem bothP_some (op : Int) (f : Tree) (x : Option Tree × Rest) : (bothP op f x).1.isSome = x.1.isSome := by obtain ⟨o, r⟩ := x; cases o <;> rfl
theorem bothP_rest (op : Int) (f : Tree) (x : Option Tree × Rest) : (bothP op f x).2 = x.2 := by obtain ⟨o, r⟩ := x; cases o <;> rfl
theorem bothP_tree {op : Int} {f : Tree} {x : Option Tree × Rest} {g : Tree} (h : (bothP op f x).1 = some g) : ∃ g', x.1 = some g' ∧ g = .node op ⟨#[]⟩ [f, g'] := by
  obtain ⟨o, r⟩ := x
  cases o with
  | none => cases h
  | some g' => exact ⟨g', rfl, (Option.some.inj h).symm⟩

set_option maxRecDepth 100000 in
set_option maxHeartbeats 2000000 in
theorem pair_walk (op : Int) (hop : 0 ≤ op) (hop' : op ≤ 9) (sign : Rest) (S : ByteArray) (hS : S.toList = sign) (hs0 : 0 < sign.length) (fl fr : Nat) (el : Enters fl) (er : Enters fr) (SL SR : Rest → Option Tree × Rest) (r : Rest)
    (hL : POk fl SL r) (hR : ∀ r', r'.length < r.length → POk fr SR r') (hlen : (SL r).2.length ≤ r.length) (w : World) (b : Nat) (s : ByteArray) (h : PAt w b s r) :
    Calls Tryd.prog 59 #[.pointer (some ⟨b, 0, none⟩), .int .i64 op, .string S, .func (.func fl) #[.pointer (some ⟨b, 0, none⟩)] #[], .func (.func fr) #[.pointer (some ⟨b, 0, none⟩)] #[]] w (PPost w b s (pairP op sign SL SR r)) := by
  have hlt := h.lt
  have H := hidIt h
  have HL := hidIt hL
  have HR := hidIt hR
  have hcl : ∀ (args : Array Value) (w : World), (callFunc fl args).run Tryd.prog w = .ok (.enter fl args) w := el
  have hcr : ∀ (args : Array Value) (w : World), (callFunc fr args).run Tryd.prog w = .ok (.enter fr args) w := er
  have hI := hidIt (i64_small hop hop')
  have hlen' := hidIt hlen
  have HSS := hidIt hS
  clear hL hR h el er hlen hS
  go_enter Tryd.func59, Tryd.ntmps59
  go_wp2_with fail
  refine (HL.out _ b s (H.out.alloc _)).mono ?_
  rintro e w1 ⟨o1, n1, a1, k1, c1, rfl, hf, hp1, hg1⟩
  cases hres : SL r with
  | mk o r1 =>
    rw [hres] at hf hp1
    simp only at hf hp1
    have HG1 : Hid (w.grownBy w1 (some b)) := only_trans (only_alloc (only_refl _ _) _) hg1
    have HK1 := hidIt (own_kept (heap_alloc_new w _) hg1 (by omega))
    have hlt1 := hp1.lt
    have hR1 := lt_of_block HK1.out
    obtain ⟨r0, r1', r2⟩ := cell_of3 HK1.out
    obtain ⟨f0, f1, f2⟩ := cells_free HK1.out
    obtain ⟨-, t2⟩ := hp1.cells
    have HP1 := hidIt hp1
    have HF1 : Hid (∀ f, o = some f → FormIn w1 (fun i => w.heap.size + 1 ≤ i) (.agg #[.int .i64 o1, .string n1, .slice a1 k1 c1]) f) := fun f hf' => (hf f hf').mono (fun i _ hi => by simpa using hi)
    have hlen2 : Hid (r1.length ≤ r.length) := by have := hlen'.out; rw [hres] at this; exact this
    have HRES := hidIt hres
    clear hf hp1 hg1 hres hlen'
    obtain ⟨T, hT⟩ : ∃ T, T = (⟨(tok r1).toArray⟩ : ByteArray) := ⟨_, rfl⟩
    have hTl : Hid (T.toList = tok r1) := by show _ = _; rw [hT, Lib.toList_data]
    rw [← hT] at t2
    clear hT
    cases o with
    | none =>
      have HE : Hid (pairP op sign SL SR r = (none, r1)) := pairP_none HRES.out
      go_wp2_with fail
      refine bodyPost_ret (v := .tuple #[.agg #[.int .i64 o1, .string n1, .slice a1 k1 c1], .bool false]) (by simp [results, Tryd.results59, go_sem, r0, r1', r2, hR1]) rfl ?_
      have hgF := only_alloc (set_three w1 w.heap.size (.int .i64 o1) (.string n1) (.slice a1 k1 c1)) (.cells #[.int .i64 o1, .string n1, .slice a1 k1 c1] 24)
      refine ⟨o1, n1, a1, k1, c1, by rw [HE.out]; rfl, fun f hf => ?_, ?_, only_new HG1.out hgF (Nat.le_refl _)⟩
      · rw [HE.out] at hf; cases hf
      · rw [HE.out]
        exact HP1.out.kept hgF (fun e => by injection e with e; omega) (fun e => by injection e with e; omega)
    | some f =>
      have HF := hidIt (HF1.out f rfl)
      by_cases ht : tok r1 = sign
      · have hq : (T.toList == S.toList) = true := by rw [hTl.out, HSS.out, ht]; exact beq_self_eq_true _
        have HE : Hid (pairP op sign SL SR r = bothP op f (SR (nxt r1))) := pairP_both HRES.out ht
        have hnl : Hid ((nxt r1).length < r.length) := Nat.lt_of_lt_of_le (nxt_lt hs0 ht) hlen2.out
        clear ht
        go_wp2_with fail
        refine (next_at (HP1.out.alloc _)).mono ?_
        rintro e w2 ⟨rfl, hp2, hg2⟩
        have HG2a := hidIt (only_trans (only_alloc (only_refl w1 (some b)) _) hg2)
        have HG2 := hidIt (only_trans HG1.out HG2a.out)
        have HL2 := hidIt (own_kept (heap_alloc_new w1 _) hg2 (by omega))
        have HK2 := hidIt (own_kept HK1.out HG2a.out (by omega))
        have HP2 := hidIt hp2
        have hlt2 := hp2.lt
        have HF2 := hidIt (HF.out.over (w1 := w1) HG2a.out (by omega))
        clear hp2 hg2 r0 r1' r2 f0 f1 f2 t2
        go_wp2_with fail
        refine (HR.out _ hnl.out _ b s HP2.out).mono ?_
        rintro e w3 ⟨o3, n3, a3, k3, c3, rfl, hf3, hp3, hg3⟩
        have HG3 := hidIt (only_trans HG2.out hg3)
        have HL3 := hidIt (own_kept HL2.out hg3 (by omega))
        have HK3 := hidIt (own_kept HK2.out hg3 (by omega))
        have HP3 := hidIt hp3
        have HF3 := hidIt (HF2.out.over (w1 := w1) hg3 (by omega))
        have HQ3 := hidIt hf3
        have hs12 := HG2a.out.size
        have hs23 := hg3.size
        have hL := lt_of_block HL3.out
        obtain ⟨l0, l1, l2⟩ := cell_of3 HL3.out
        have hR3 := lt_of_block HK3.out
        obtain ⟨r0, r1', r2⟩ := cell_of3 HK3.out
        obtain ⟨f0, f1, f2⟩ := cells_free HK3.out
        clear hf3 hp3 hg3
        generalize hok : (SR (nxt r1)).1.isSome = okb at *
        have HOK := hidIt hok
        clear hok
        go_wp2_with fail
        refine bodyPost_ret (v := .tuple #[.agg #[.int .i64 op, .string ⟨#[]⟩, .slice (some ⟨w3.heap.size + 1, 0, none⟩) 2 2], .bool okb]) (by simp [results, Tryd.results59, go_sem, r0, r1', r2, hR3]) rfl ?_
        have hgF : w3.grownBy (((((w3.setCell ⟨w.heap.size, 0, none⟩ (.int .i64 op)).setCell ⟨w.heap.size, 1, none⟩ (.string ⟨#[]⟩)).setCell ⟨w.heap.size, 2, none⟩ (.slice (some ⟨w3.heap.size + 1, 0, none⟩) 2 2)).alloc (.cells #[.int .i64 o3, .string n3, .slice a3 k3 c3] 24)).alloc (.cells #[.int .i64 o1, .string n1, .slice a1 k1 c1, .int .i64 o3, .string n3, .slice a3 k3 c3] 24)) (some w.heap.size) := only_alloc (only_alloc (set_three _ _ _ _ _) _) _
        refine ⟨op, ⟨#[]⟩, _, 2, 2, by rw [HE.out, bothP_some, HOK.out], fun f' hf => ?_, ?_, only_new HG3.out hgF (Nat.le_refl _)⟩
        · rw [HE.out] at hf
          obtain ⟨g, hg, rfl⟩ := bothP_tree hf
          have h1 := ((HF3.out).over (w1 := w1) hgF (by omega)).mono (S' := fun i => w.heap.size ≤ i) (fun i _ hi => by omega)
          have h2 := ((HQ3.out g hg).over (w1 := w1) hgF (by omega)).mono (S' := fun i => w.heap.size ≤ i) (fun i _ hi => by omega)
          exact FormIn.mk (FormsIn.two (heap_alloc_at (by simp [World.setCell])) (by show _ ≤ _; omega) h1 h2) rfl hI.out nil_le (Nat.le_refl _) (by unfold maxLen; simp)
        · rw [HE.out, bothP_rest]
          exact HP3.out.kept hgF (fun e => by injection e with e; omega) (fun e => by injection e with e; omega)
      · have hq : (T.toList == S.toList) = false := by rw [hTl.out, HSS.out]; exact beq_eq_false_iff_ne.2 ht
        have HE : Hid (pairP op sign SL SR r = (some f, r1)) := pairP_left HRES.out ht
        clear ht
        go_wp2_with fail
        refine bodyPost_ret (v := .tuple #[.agg #[.int .i64 o1, .string n1, .slice a1 k1 c1], .bool true]) (by simp [results, Tryd.results59, go_sem, r0, r1', r2, hR1]) rfl ?_
        have hgF := only_alloc (set_three w1 w.heap.size (.int .i64 o1) (.string n1) (.slice a1 k1 c1)) (.cells #[.int .i64 o1, .string n1, .slice a1 k1 c1] 24)
        refine ⟨o1, n1, a1, k1, c1, by rw [HE.out]; rfl, fun f' hf => ?_, ?_, only_new HG1.out hgF (Nat.le_refl _)⟩
        · rw [HE.out] at hf
          obtain rfl : f = f' := Option.some.inj hf
          exact (HF.out.over (w1 := w) hgF (by omega)).mono (fun i _ hi => by omega)
        · rw [HE.out]
          exact HP1.out.kept hgF (fun e => by injection e with e; omega) (fun e => by injection e with e; omega)
end Go.Proofs.YtpiiadmjddikfaaDoor
