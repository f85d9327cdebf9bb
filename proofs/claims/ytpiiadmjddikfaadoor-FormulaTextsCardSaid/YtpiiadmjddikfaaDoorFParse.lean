/- formula.Parse. -/
import Derived.Test.YtpiiadmjddikfaaDoorAllP
import Derived.Test.YtpiiadmjddikfaaDoorWithin
import Derived.BigRegion
namespace Go.Proofs.YtpiiadmjddikfaaDoor
set_option linter.unusedVariables false
set_option linter.unusedSimpArgs false
open Go.RowKit

def zeroT : Tree := .node 0 ⟨#[]⟩ []

/-- What is left, and what was read of a text that is not too long. -/
def readT (s : ByteArray) : Option Tree × Rest := pF (8 * (skipS s.data.toList).length + 7) 0 (skipS s.data.toList)

/-- What Parse makes of what was read. -/
def judge (n : Nat) : Option Tree × Rest → Tree × Nat × Int
  | (some f, r) => if r.length = 0 then (if valE f = 0 then (f, 0, 0) else (zeroT, 0, 2)) else (zeroT, n - r.length, 3)
  | (none, r) => (zeroT, n - r.length, 3)

/-- What Parse answers: the formula, the offset, the error. -/
def parseT (s : ByteArray) : Tree × Nat × Int := if 4096 < s.size then (zeroT, 0, 2) else judge s.size (readT s)

theorem zero_form (w : World) (S : Nat → Prop) : FormIn w S (.agg #[.int .i64 0, .string ⟨#[]⟩, .slice none 0 0]) zeroT :=
  FormIn.mk (FormsIn.nil none) rfl (by unfold I64; omega) nil_le (Nat.le_refl _) (Nat.zero_le _)

def ParsePost (w : World) (s : ByteArray) (e : Ending) (w' : World) : Prop :=
  ∃ (op : Int) (nm : ByteArray) (a : Option Addr) (n c : Nat), e = .returned (.tuple #[.agg #[.int .i64 op, .string nm, .slice a n c], .int .i64 ((parseT s).2.1 : Nat), .int .i64 (parseT s).2.2]) ∧
    FormIn w' (fun i => w.heap.size ≤ i) (.agg #[.int .i64 op, .string nm, .slice a n c]) (parseT s).1 ∧ Below w.heap.size w w'

theorem valE_range' (t : Tree) : valE t = 0 ∨ valE t = 2 ∨ valE t = 3 ∨ valE t = 4 := by
  unfold valE
  repeat' split
  all_goals simp

theorem below_of_only {w w' : World} {b : Nat} (h : w.grownBy w' (some b)) (hb : w.heap.size ≤ b) : Below w.heap.size w w' :=
  ⟨h.os, h.tape, h.output, h.size, fun i hi => h.block i hi (fun e => by injection e with e; omega)⟩

theorem PAt.at {w : World} {b : Nat} {s : ByteArray} {r : Rest} (h : PAt w b s r) : w.cell? ⟨b, 1, none⟩ = some (.int .i64 ((s.size - r.length : Nat) : Int)) := by
  obtain ⟨p, h1, h2, h3⟩ := h.ex
  have e := size_data s
  have hr : r.length = s.size - p := by rw [h2, List.length_drop, e]
  rw [show s.size - r.length = p by omega]
  exact h3.cells.2.1

set_option maxRecDepth 100000 in
set_option maxHeartbeats 4000000 in
theorem parse_any (s : ByteArray) (hs : s.size ≤ maxLen) (w : World) (hsg : SignsAt w) : Calls Tryd.prog 22 #[.string s] w (ParsePost w s) := by
  unfold maxLen at hs
  by_cases hlong : 4096 < s.size
  · have HE : Hid (parseT s = (zeroT, 0, 2)) := by show _ = _; unfold parseT; rw [if_pos hlong]
    have hl : (4096 : Int) < (s.size : Int) := by omega
    clear hlong
    go_enter Tryd.func22, Tryd.ntmps22
    go_wp2_with fail
    refine bodyPost_ret (v := .tuple #[.agg #[.int .i64 0, .string ⟨#[]⟩, .slice none 0 0], .int .i64 0, .int .i64 2]) (by simp [results, Tryd.results22, go_sem]) rfl ?_
    exact ⟨0, ⟨#[]⟩, none, 0, 0, by rw [HE.out]; rfl, by rw [HE.out]; exact zero_form _ _, (Below.refl _ _).alloc (Nat.le_refl _) _⟩
  have hl : decide ((4096 : Int) < (s.size : Int)) = false := by simp; omega
  have HSG := hidIt hsg
  have hE0 : Hid (parseT s = judge s.size (readT s)) := by show _ = _; unfold parseT; rw [if_neg hlong]
  have hs4 : s.size ≤ 4096 := by omega
  clear hsg hlong
  go_enter Tryd.func22, Tryd.ntmps22
  go_wp2_with fail
  have hb2 : Below w.heap.size w ((w.alloc (.cells #[.int .i64 0, .string ⟨#[]⟩, .slice none 0 0] 24)).alloc (.cells #[.string s, .int .i64 0, .string ⟨#[]⟩] 59)) := ((Below.refl _ _).alloc (Nat.le_refl _) _).alloc (by simp) _
  have hpb : PBox ((w.alloc (.cells #[.int .i64 0, .string ⟨#[]⟩, .slice none 0 0] 24)).alloc (.cells #[.string s, .int .i64 0, .string ⟨#[]⟩] 59)) (w.heap.size + 1) s 0 ⟨#[]⟩ := heap_alloc_at (by simp)
  have hk0 : ((w.alloc (.cells #[.int .i64 0, .string ⟨#[]⟩, .slice none 0 0] 24)).alloc (.cells #[.string s, .int .i64 0, .string ⟨#[]⟩] 59)).heap[w.heap.size]? = some (.cells #[.int .i64 0, .string ⟨#[]⟩, .slice none 0 0] 24 (0, 0)) := blk_kept (heap_alloc_new w _) ((Below.refl _ _).alloc (Nat.le_refl _) _)
  have HB0 := hidIt hb2
  have HK0 := hidIt hk0
  have hsg2 := HSG.out.go hb2
  have h00 := HSG.out.lt
  refine (next_any s (by omega) 0 ⟨#[]⟩ (Nat.zero_le _) (w.heap.size + 1) (by omega) _ hpb hsg2).mono ?_
  rintro e w1 ⟨rfl, q, hq, hd, hbox, hg1⟩
  have hr0 : s.data.toList.drop q = skipS s.data.toList := hd
  rw [hr0] at hbox
  have HP1 : Hid (PAt w1 (w.heap.size + 1) s (skipS s.data.toList)) := ⟨⟨q, hq, hr0.symm, hbox⟩, hsg2.kept hg1 (fun e => by injection e with e; omega), by omega, hs4⟩
  have HB1 : Hid (w.grownBy w1 (some (w.heap.size + 1))) := only_trans (only_of_below hb2 _) hg1
  have HK1 := hidIt (own_kept hk0 hg1 (by omega))
  clear hb2 hpb hk0 hsg2 hq hd hbox hg1 hr0
  go_wp2_with fail
  refine ((all_ok (8 * (skipS s.data.toList).length + 7)).eqv (skipS s.data.toList) (Nat.le_refl _) w1 (w.heap.size + 1) s HP1.out).mono ?_
  rintro e w2 ⟨op, nm, a, k, c, rfl, hf, hp2, hg2⟩
  have hread : pF (8 * (skipS s.data.toList).length + 7) 0 (skipS s.data.toList) = readT s := rfl
  rw [hread] at hf hp2
  rw [hread]
  have HE0 := hE0
  cases hres : readT s with
  | mk o r1 =>
    rw [hres] at hf hp2
    have HE1 : Hid (parseT s = judge s.size (o, r1)) := HE0.out.trans (by rw [hres])
    simp only at hf hp2
    have HF2 : Hid (∀ f, o = some f → FormIn w2 (fun i => w.heap.size + 1 + 1 ≤ i) (.agg #[.int .i64 op, .string nm, .slice a k c]) f) := fun f hf' => (hf f hf').mono (fun i _ hi => by have := HP1.out.lt; omega)
    have HB2 := hidIt (only_trans HB1.out hg2)
    have HK2 := hidIt (own_kept HK1.out hg2 (by omega))
    have hR := lt_of_block HK2.out
    obtain ⟨r0, r1', r2⟩ := cell_of3 HK2.out
    obtain ⟨f0, f1, f2⟩ := cells_free HK2.out
    have hat := hp2.at
    have hlt2 := hp2.lt
    have hrl : r1.length ≤ s.size := by
      obtain ⟨p, h1, h2, h3⟩ := hp2.ex
      rw [h2, List.length_drop, size_data]
      omega
    clear hf hp2 hg2 HE0 hres hread
    obtain ⟨m, hm⟩ : ∃ m, m = s.size - r1.length := ⟨_, rfl⟩
    rw [← hm] at hat
    have hms : m ≤ s.size := by omega
    cases o with
    | none =>
      have HE2 : Hid (parseT s = (zeroT, m, 3)) := HE1.out.trans (by rw [hm]; rfl)
      clear hm
      go_wp2_with fail
      go_big_region
      go_wp2_with fail
      refine bodyPost_ret (v := .tuple #[.agg #[.int .i64 0, .string ⟨#[]⟩, .slice none 0 0], .int .i64 (m : Int), .int .i64 3]) (by simp [results, Tryd.results22, go_sem, r0, r1', r2, hR]) rfl ?_
      refine ⟨0, ⟨#[]⟩, none, 0, 0, by rw [HE2.out], by rw [HE2.out]; exact zero_form _ _, below_of_only (only_new HB2.out ?_ (Nat.le_refl w.heap.size)) (by omega)⟩
      exact only_drewN (only_alloc (set_three w2 w.heap.size _ _ _) _) 1
    | some f =>
      have HF3 := hidIt (HF2.out f rfl)
      by_cases hz : r1.length = 0
      · have hms2 : m = s.size := by omega
        have hlt9 : decide ((m : Int) < (s.size : Int)) = false := by simp; omega
        have hmm : decide (m < s.size) = false := by simp; omega
        by_cases hv : valE f = 0
        · have HE2 : Hid (parseT s = (f, 0, 0)) := HE1.out.trans (by simp only [judge]; rw [if_pos hz, if_pos hv])
          have HV := hidIt hv
          clear hm hz hv hms2
          go_wp2_with fail
          refine (validate_any f _ _ ((FormIn.free HF3.out).go ((Below.refl _ _).alloc (Nat.le_refl _) _))).mono ?_
          rintro e w3 ⟨rfl, hb3⟩
          rw [HV.out]
          have HB3 := hidIt (only_trans HB2.out (only_of_below (below_box hb3) _))
          have HK3 := hidIt (blk_kept HK2.out (below_box hb3))
          have HL3 := laid_box hb3
          have hL := lt_of_block HL3
          obtain ⟨l0, l1, l2⟩ := cell_of3 HL3
          clear r0 r1' r2 f0 f1 f2 hR hat
          have hR := lt_of_block HK3.out
          obtain ⟨r0, r1', r2⟩ := cell_of3 HK3.out
          obtain ⟨f0, f1, f2⟩ := cells_free HK3.out
          have HF4 := hidIt (HF3.out.go (below_box hb3))
          clear hb3 HL3
          go_wp2_with fail
          refine bodyPost_ret (v := .tuple #[.agg #[.int .i64 op, .string nm, .slice a k c], .int .i64 0, .int .i64 0]) (by simp [results, Tryd.results22, go_sem, r0, r1', r2, hR]) rfl ?_
          have hgF := set_three w3 w.heap.size (.int .i64 op) (.string nm) (.slice a k c)
          refine ⟨op, nm, a, k, c, by rw [HE2.out]; rfl, ?_, below_of_only (only_new HB3.out hgF (Nat.le_refl _)) (by omega)⟩
          rw [HE2.out]
          exact ((HF4.out).over (w1 := w) hgF (by omega)).mono (fun i _ hi => by omega)
        · have HE2 : Hid (parseT s = (zeroT, 0, 2)) := HE1.out.trans (by simp only [judge]; rw [if_pos hz, if_neg hv])
          have hvz : (valE f == 0) = false := by simp [hv]
          have HR := hidIt (valE_range' f)
          clear hm hz hv hms2
          go_wp2_with fail
          refine (validate_any f _ _ ((FormIn.free HF3.out).go ((Below.refl _ _).alloc (Nat.le_refl _) _))).mono ?_
          rintro e w3 ⟨rfl, hb3⟩
          have HB3 := hidIt (only_trans HB2.out (only_of_below (below_box hb3) _))
          have HK3 := hidIt (blk_kept HK2.out (below_box hb3))
          clear r0 r1' r2 f0 f1 f2 hR hat
          have hR := lt_of_block HK3.out
          obtain ⟨r0, r1', r2⟩ := cell_of3 HK3.out
          obtain ⟨f0, f1, f2⟩ := cells_free HK3.out
          clear hb3
          go_wp2_with fail
          refine bodyPost_ret (v := .tuple #[.agg #[.int .i64 0, .string ⟨#[]⟩, .slice none 0 0], .int .i64 0, .int .i64 2]) (by simp [results, Tryd.results22, go_sem, r0, r1', r2, hR]) rfl ?_
          have hgF := set_three w3 w.heap.size (.int .i64 0) (.string ⟨#[]⟩) (.slice none 0 0)
          exact ⟨0, ⟨#[]⟩, none, 0, 0, by rw [HE2.out]; rfl, by rw [HE2.out]; exact zero_form _ _, below_of_only (only_new HB3.out hgF (Nat.le_refl _)) (by omega)⟩
      · have HE2 : Hid (parseT s = (zeroT, m, 3)) := HE1.out.trans (by simp only [judge]; rw [if_neg hz, hm])
        have hlt9 : (m : Int) < (s.size : Int) := by omega
        have hmm : m < s.size := by omega
        clear hm hz
        go_wp2_with fail
        go_big_region
        go_wp2_with fail
        refine bodyPost_ret (v := .tuple #[.agg #[.int .i64 0, .string ⟨#[]⟩, .slice none 0 0], .int .i64 (m : Int), .int .i64 3]) (by simp [results, Tryd.results22, go_sem, r0, r1', r2, hR]) rfl ?_
        refine ⟨0, ⟨#[]⟩, none, 0, 0, by rw [HE2.out], by rw [HE2.out]; exact zero_form _ _, below_of_only (only_new HB2.out ?_ (Nat.le_refl w.heap.size)) (by omega)⟩
        exact only_drewN (only_alloc (set_three w2 w.heap.size _ _ _) _) 1
end Go.Proofs.YtpiiadmjddikfaaDoor
