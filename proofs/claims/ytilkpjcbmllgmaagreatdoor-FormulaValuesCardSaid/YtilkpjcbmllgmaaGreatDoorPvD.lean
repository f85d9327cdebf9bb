/- The parser's functions by the size of the rest: all of them read what the specification says. formula.Parse. The chapter's examples about formulas, in whatever memory. What the laws on values share: the values of nodes, Eval in the walk, formulas in boxes. What the rows' proofs share: a list of ints that came in, as the walks are told of it. A formula that came in, as the walks are told of it. Lists of strings: one appended to another; a list that came in. Sets of worlds as bits: the plain mathematics. world.where. slices.Index and slices.Contains at lists of strings; world.all; world.Valid. world.Valid, All. world.models: the models of a formula, as bits. world.Models and Entails. A region that draws its order and whose last operation waits for all others: the others go by relations (XRel), the last one is carried out behind them, in the world that they leave. world.formulaOf and choice. world.split. world.theory and Theory. world.Theory. world.Entails. world.Forget; Size of one set. keep.Voc; formulas that were built are valid and over its vocabularies. The chapter's examples about worlds, in whatever memory. The same as RefT, but behind Name alone (for the seats of stage 2). -/
import Derived.BigRegion
import Derived.ProofKit
import Derived.OpenShut
import Derived.ShutString
import Derived.ChangeOld
import Derived.ChangeSame
import Derived.Lib.SmallJoins
import Derived.Laws.AppendOwnNone
import Derived.Laws.Bits64
import Derived.Test.YtilkpjcbmllgmaaGreatDoorPvA
import Derived.Test.YtilkpjcbmllgmaaGreatDoorPvB
import Derived.Test.YtilkpjcbmllgmaaGreatDoorPvC

namespace Go.Proofs.YtilkpjcbmllgmaaGreatDoor
set_option linter.unusedVariables false
set_option linter.unusedSimpArgs false
open Go.RowKit

theorem enters_impl : Enters 114 := enters_of Tryz.func114 (by kernel_rfl) rfl
theorem enters_disj : Enters 132 := enters_of Tryz.func132 (by kernel_rfl) rfl
theorem enters_conj : Enters 143 := enters_of Tryz.func143 (by kernel_rfl) rfl
theorem enters_neg : Enters 148 := enters_of Tryz.func148 (by kernel_rfl) rfl
theorem ba_toList (l : List UInt8) : (⟨l.toArray⟩ : ByteArray).toList = l := by rw [Lib.toList_data]

set_option maxRecDepth 100000 in
set_option maxHeartbeats 1000000 in
theorem equiv_walk (n : Nat) (r : Rest) (h0 : POk 114 (pF n 1) r) (h1 : ∀ r', r'.length < r.length → POk 114 (pF n 1) r') : POk 98 (pF (n + 1) 0) r := by
  intro w b s h
  have hlt := h.lt
  have H := hidIt h
  have hmf : ∀ (fn : Fn) (first cap : Array Value) (w : World), (Instr.makeFunc fn first cap).run Tryz.prog w = .ok (.func fn first cap) w := fun _ _ _ _ => rfl
  have HC : Hid (Calls Tryz.prog 113 #[.pointer (some ⟨b, 0, none⟩), .int .i64 8, .string ⟨#[60, 45, 62]⟩, .func (.func 114) #[.pointer (some ⟨b, 0, none⟩)] #[], .func (.func 114) #[.pointer (some ⟨b, 0, none⟩)] #[]] (w.alloc (.cells #[.int .i64 0, .string ⟨#[]⟩, .slice none 0 0] 24)) (PPost (w.alloc (.cells #[.int .i64 0, .string ⟨#[]⟩, .slice none 0 0] 24)) b s (pairP 8 [60, 45, 62] (pF n 1) (pF n 1) r))) := pair_walk 8 (by omega) (by omega) [60, 45, 62] ⟨#[60, 45, 62]⟩ (ba_toList [60, 45, 62]) (by decide) _ _ enters_impl enters_impl (pF n 1) (pF n 1) r h0 h1 (pF_len n 1 r) _ b s (h.alloc _)
  have HE : Hid (pF (n + 1) 0 r = pairP 8 [60, 45, 62] (pF n 1) (pF n 1) r) := rfl
  clear h
  go_enter Tryz.func98, Tryz.ntmps98
  go_wp2_with fail
  refine HC.out.mono ?_
  rintro e w2 ⟨op, nm, a, k, c, rfl, hf, hp2, hg2⟩
  have HF2 := hidIt hf
  have HP2 := hidIt hp2
  have HG2 : Hid (w.grownBy w2 (some b)) := only_trans (only_alloc (only_refl _ _) _) hg2
  have HK2 := hidIt (own_kept (heap_alloc_new w _) hg2 (by omega))
  have hR := lt_of_block HK2.out
  obtain ⟨r0, r1, r2⟩ := cell_of3 HK2.out
  obtain ⟨f0, f1, f2⟩ := cells_free HK2.out
  clear hf hp2 hg2 hmf HC
  generalize hok : (pairP 8 [60, 45, 62] (pF n 1) (pF n 1) r).1.isSome = okb at *
  have HOK := hidIt hok
  clear hok
  go_wp2_with fail
  refine bodyPost_ret (v := .tuple #[.agg #[.int .i64 op, .string nm, .slice a k c], .bool okb]) (by simp [results, Tryz.results98, go_sem, r0, r1, r2, hR]) rfl ?_
  have hgF := set_three w2 w.heap.size (.int .i64 op) (.string nm) (.slice a k c)
  refine ⟨op, nm, a, k, c, by rw [HE.out, HOK.out], fun f hf => ?_, ?_, only_new HG2.out hgF (Nat.le_refl _)⟩
  · rw [HE.out] at hf
    exact ((HF2.out f hf).over (w1 := w) hgF (by simp)).mono (fun i _ hi => by simp at hi; omega)
  · rw [HE.out]
    exact HP2.out.kept hgF (fun e => by injection e with e; omega) (fun e => by injection e with e; omega)

set_option maxRecDepth 100000 in
set_option maxHeartbeats 1000000 in
theorem impl_walk (n : Nat) (r : Rest) (h0 : POk 132 (pF n 2) r) (h1 : ∀ r', r'.length < r.length → POk 114 (pF n 1) r') : POk 114 (pF (n + 1) 1) r := by
  intro w b s h
  have hlt := h.lt
  have H := hidIt h
  have hmf : ∀ (fn : Fn) (first cap : Array Value) (w : World), (Instr.makeFunc fn first cap).run Tryz.prog w = .ok (.func fn first cap) w := fun _ _ _ _ => rfl
  have HC : Hid (Calls Tryz.prog 113 #[.pointer (some ⟨b, 0, none⟩), .int .i64 7, .string ⟨#[45, 62]⟩, .func (.func 132) #[.pointer (some ⟨b, 0, none⟩)] #[], .func (.func 114) #[.pointer (some ⟨b, 0, none⟩)] #[]] (w.alloc (.cells #[.int .i64 0, .string ⟨#[]⟩, .slice none 0 0] 24)) (PPost (w.alloc (.cells #[.int .i64 0, .string ⟨#[]⟩, .slice none 0 0] 24)) b s (pairP 7 [45, 62] (pF n 2) (pF n 1) r))) := pair_walk 7 (by omega) (by omega) [45, 62] ⟨#[45, 62]⟩ (ba_toList [45, 62]) (by decide) _ _ enters_disj enters_impl (pF n 2) (pF n 1) r h0 h1 (pF_len n 2 r) _ b s (h.alloc _)
  have HE : Hid (pF (n + 1) 1 r = pairP 7 [45, 62] (pF n 2) (pF n 1) r) := rfl
  clear h
  go_enter Tryz.func114, Tryz.ntmps114
  go_wp2_with fail
  refine HC.out.mono ?_
  rintro e w2 ⟨op, nm, a, k, c, rfl, hf, hp2, hg2⟩
  have HF2 := hidIt hf
  have HP2 := hidIt hp2
  have HG2 : Hid (w.grownBy w2 (some b)) := only_trans (only_alloc (only_refl _ _) _) hg2
  have HK2 := hidIt (own_kept (heap_alloc_new w _) hg2 (by omega))
  have hR := lt_of_block HK2.out
  obtain ⟨r0, r1, r2⟩ := cell_of3 HK2.out
  obtain ⟨f0, f1, f2⟩ := cells_free HK2.out
  clear hf hp2 hg2 hmf HC
  generalize hok : (pairP 7 [45, 62] (pF n 2) (pF n 1) r).1.isSome = okb at *
  have HOK := hidIt hok
  clear hok
  go_wp2_with fail
  refine bodyPost_ret (v := .tuple #[.agg #[.int .i64 op, .string nm, .slice a k c], .bool okb]) (by simp [results, Tryz.results114, go_sem, r0, r1, r2, hR]) rfl ?_
  have hgF := set_three w2 w.heap.size (.int .i64 op) (.string nm) (.slice a k c)
  refine ⟨op, nm, a, k, c, by rw [HE.out, HOK.out], fun f hf => ?_, ?_, only_new HG2.out hgF (Nat.le_refl _)⟩
  · rw [HE.out] at hf
    exact ((HF2.out f hf).over (w1 := w) hgF (by simp)).mono (fun i _ hi => by simp at hi; omega)
  · rw [HE.out]
    exact HP2.out.kept hgF (fun e => by injection e with e; omega) (fun e => by injection e with e; omega)

set_option maxRecDepth 100000 in
set_option maxHeartbeats 1000000 in
theorem disj_walk (n : Nat) (r : Rest) (h0 : POk 143 (pF n 3) r) (h1 : ∀ r', r'.length < r.length → POk 143 (pF n 3) r') : POk 132 (pF (n + 1) 2) r := by
  intro w b s h
  have hlt := h.lt
  have H := hidIt h
  have hmf : ∀ (fn : Fn) (first cap : Array Value) (w : World), (Instr.makeFunc fn first cap).run Tryz.prog w = .ok (.func fn first cap) w := fun _ _ _ _ => rfl
  have HC : Hid (Calls Tryz.prog 142 #[.pointer (some ⟨b, 0, none⟩), .int .i64 6, .string ⟨#[124]⟩, .func (.func 143) #[.pointer (some ⟨b, 0, none⟩)] #[]] (w.alloc (.cells #[.int .i64 0, .string ⟨#[]⟩, .slice none 0 0] 24)) (PPost (w.alloc (.cells #[.int .i64 0, .string ⟨#[]⟩, .slice none 0 0] 24)) b s (rowP 6 [124] (pF n 3) r))) := row_walk 6 (by omega) (by omega) [124] ⟨#[124]⟩ (ba_toList [124]) (by decide) _ enters_conj (pF n 3) r h0 h1 (pF_len n 3) _ b s (h.alloc _)
  have HE : Hid (pF (n + 1) 2 r = rowP 6 [124] (pF n 3) r) := rfl
  clear h
  go_enter Tryz.func132, Tryz.ntmps132
  go_wp2_with fail
  refine HC.out.mono ?_
  rintro e w2 ⟨op, nm, a, k, c, rfl, hf, hp2, hg2⟩
  have HF2 := hidIt hf
  have HP2 := hidIt hp2
  have HG2 : Hid (w.grownBy w2 (some b)) := only_trans (only_alloc (only_refl _ _) _) hg2
  have HK2 := hidIt (own_kept (heap_alloc_new w _) hg2 (by omega))
  have hR := lt_of_block HK2.out
  obtain ⟨r0, r1, r2⟩ := cell_of3 HK2.out
  obtain ⟨f0, f1, f2⟩ := cells_free HK2.out
  clear hf hp2 hg2 hmf HC
  generalize hok : (rowP 6 [124] (pF n 3) r).1.isSome = okb at *
  have HOK := hidIt hok
  clear hok
  go_wp2_with fail
  refine bodyPost_ret (v := .tuple #[.agg #[.int .i64 op, .string nm, .slice a k c], .bool okb]) (by simp [results, Tryz.results132, go_sem, r0, r1, r2, hR]) rfl ?_
  have hgF := set_three w2 w.heap.size (.int .i64 op) (.string nm) (.slice a k c)
  refine ⟨op, nm, a, k, c, by rw [HE.out, HOK.out], fun f hf => ?_, ?_, only_new HG2.out hgF (Nat.le_refl _)⟩
  · rw [HE.out] at hf
    exact ((HF2.out f hf).over (w1 := w) hgF (by simp)).mono (fun i _ hi => by simp at hi; omega)
  · rw [HE.out]
    exact HP2.out.kept hgF (fun e => by injection e with e; omega) (fun e => by injection e with e; omega)

set_option maxRecDepth 100000 in
set_option maxHeartbeats 1000000 in
theorem conj_walk (n : Nat) (r : Rest) (h0 : POk 148 (pF n 4) r) (h1 : ∀ r', r'.length < r.length → POk 148 (pF n 4) r') : POk 143 (pF (n + 1) 3) r := by
  intro w b s h
  have hlt := h.lt
  have H := hidIt h
  have hmf : ∀ (fn : Fn) (first cap : Array Value) (w : World), (Instr.makeFunc fn first cap).run Tryz.prog w = .ok (.func fn first cap) w := fun _ _ _ _ => rfl
  have HC : Hid (Calls Tryz.prog 142 #[.pointer (some ⟨b, 0, none⟩), .int .i64 5, .string ⟨#[38]⟩, .func (.func 148) #[.pointer (some ⟨b, 0, none⟩)] #[]] (w.alloc (.cells #[.int .i64 0, .string ⟨#[]⟩, .slice none 0 0] 24)) (PPost (w.alloc (.cells #[.int .i64 0, .string ⟨#[]⟩, .slice none 0 0] 24)) b s (rowP 5 [38] (pF n 4) r))) := row_walk 5 (by omega) (by omega) [38] ⟨#[38]⟩ (ba_toList [38]) (by decide) _ enters_neg (pF n 4) r h0 h1 (pF_len n 4) _ b s (h.alloc _)
  have HE : Hid (pF (n + 1) 3 r = rowP 5 [38] (pF n 4) r) := rfl
  clear h
  go_enter Tryz.func143, Tryz.ntmps143
  go_wp2_with fail
  refine HC.out.mono ?_
  rintro e w2 ⟨op, nm, a, k, c, rfl, hf, hp2, hg2⟩
  have HF2 := hidIt hf
  have HP2 := hidIt hp2
  have HG2 : Hid (w.grownBy w2 (some b)) := only_trans (only_alloc (only_refl _ _) _) hg2
  have HK2 := hidIt (own_kept (heap_alloc_new w _) hg2 (by omega))
  have hR := lt_of_block HK2.out
  obtain ⟨r0, r1, r2⟩ := cell_of3 HK2.out
  obtain ⟨f0, f1, f2⟩ := cells_free HK2.out
  clear hf hp2 hg2 hmf HC
  generalize hok : (rowP 5 [38] (pF n 4) r).1.isSome = okb at *
  have HOK := hidIt hok
  clear hok
  go_wp2_with fail
  refine bodyPost_ret (v := .tuple #[.agg #[.int .i64 op, .string nm, .slice a k c], .bool okb]) (by simp [results, Tryz.results143, go_sem, r0, r1, r2, hR]) rfl ?_
  have hgF := set_three w2 w.heap.size (.int .i64 op) (.string nm) (.slice a k c)
  refine ⟨op, nm, a, k, c, by rw [HE.out, HOK.out], fun f hf => ?_, ?_, only_new HG2.out hgF (Nat.le_refl _)⟩
  · rw [HE.out] at hf
    exact ((HF2.out f hf).over (w1 := w) hgF (by simp)).mono (fun i _ hi => by simp at hi; omega)
  · rw [HE.out]
    exact HP2.out.kept hgF (fun e => by injection e with e; omega) (fun e => by injection e with e; omega)

/-- All methods, where so many calls are enough. -/
structure AllOk (n : Nat) : Prop where
  eqv : ∀ r : Rest, 8 * r.length + 7 ≤ n → POk 98 (pF n 0) r
  imp : ∀ r : Rest, 8 * r.length + 6 ≤ n → POk 114 (pF n 1) r
  dis : ∀ r : Rest, 8 * r.length + 5 ≤ n → POk 132 (pF n 2) r
  con : ∀ r : Rest, 8 * r.length + 4 ≤ n → POk 143 (pF n 3) r
  neg : ∀ r : Rest, 8 * r.length + 3 ≤ n → POk 148 (pF n 4) r
  pri : ∀ r : Rest, 8 * r.length + 2 ≤ n → POk 151 (pF n 5) r
  grp : ∀ r : Rest, 8 * r.length + 1 ≤ n → 0 < (tok r).length → POk 154 (pF n 6) r

theorem all_ok : ∀ n, AllOk n := by
  intro n
  induction n with
  | zero => exact ⟨fun r h => by omega, fun r h => by omega, fun r h => by omega, fun r h => by omega, fun r h => by omega, fun r h => by omega, fun r h => by omega⟩
  | succ n ih =>
    refine ⟨fun r h => equiv_walk n r (ih.imp r (by omega)) (fun r' h' => ih.imp r' (by omega)), fun r h => impl_walk n r (ih.dis r (by omega)) (fun r' h' => ih.imp r' (by omega)),
      fun r h => disj_walk n r (ih.con r (by omega)) (fun r' h' => ih.con r' (by omega)), fun r h => conj_walk n r (ih.neg r (by omega)) (fun r' h' => ih.neg r' (by omega)),
      fun r h => neg_walk n r (fun r' h' => ih.neg r' (by omega)) (ih.pri r (by omega)), fun r h => ?_, fun r h ht => group_walk n r (ih.eqv (nxt r) (by have := nxt_len r; omega))⟩
    by_cases ht : 0 < (tok r).length
    · exact prim_walk n r (fun _ => ih.grp r (by omega) ht)
    · exact prim_walk n r (fun e => absurd (by rw [e]; decide) ht)
end Go.Proofs.YtilkpjcbmllgmaaGreatDoor

namespace Go.Proofs.YtilkpjcbmllgmaaGreatDoor
set_option linter.unusedVariables false
set_option linter.unusedSimpArgs false
open Go.RowKit

def zeroT : Tree := .node 0 ⟨#[]⟩ []

/-- What is left, and what was read of a text that is not too long. -/
def readT (s : ByteArray) : Option Tree × Rest := pF (8 * (skipS s.data.toList).length + 7) 0 (skipS s.data.toList)

/-- What Parse makes of what was read. -/
def judge (n : Nat) : Option Tree × Rest → Tree × Nat × Int
  | (some f, r) => if r.length = 0 then (if valE f = 0 then (f, 0, 0) else (zeroT, 0, 2)) else (zeroT, n - r.length, 3)
  | (none, r) => (zeroT, n - r.length, 3)

/-- What Parse answers: the formula, the offset, the error. -/
def parseT (s : ByteArray) : Tree × Nat × Int := if 4096 < s.size then (zeroT, 0, 2) else judge s.size (readT s)

theorem zero_form (w : World) (S : Nat → Prop) : FormIn w S (.agg #[.int .i64 0, .string ⟨#[]⟩, .slice none 0 0]) zeroT :=
  FormIn.mk (FormsIn.nil none) rfl (by unfold I64; omega) nil_le (Nat.le_refl _) (Nat.zero_le _)

def ParsePost (w : World) (s : ByteArray) (e : Ending) (w' : World) : Prop :=
  ∃ (op : Int) (nm : ByteArray) (a : Option Addr) (n c : Nat), e = .returned (.tuple #[.agg #[.int .i64 op, .string nm, .slice a n c], .int .i64 ((parseT s).2.1 : Nat), .int .i64 (parseT s).2.2]) ∧
    FormIn w' (fun i => w.heap.size ≤ i) (.agg #[.int .i64 op, .string nm, .slice a n c]) (parseT s).1 ∧ Below w.heap.size w w'

theorem valE_range' (t : Tree) : valE t = 0 ∨ valE t = 2 ∨ valE t = 3 ∨ valE t = 4 := by
  unfold valE
  repeat' split
  all_goals simp

theorem below_of_only {w w' : World} {b : Nat} (h : w.grownBy w' (some b)) (hb : w.heap.size ≤ b) : Below w.heap.size w w' :=
  ⟨h.os, h.tape, h.output, h.size, fun i hi => h.block i hi (fun e => by injection e with e; omega)⟩

theorem PAt.at {w : World} {b : Nat} {s : ByteArray} {r : Rest} (h : PAt w b s r) : w.cell? ⟨b, 1, none⟩ = some (.int .i64 ((s.size - r.length : Nat) : Int)) := by
  obtain ⟨p, h1, h2, h3⟩ := h.ex
  have e := size_data s
  have hr : r.length = s.size - p := by rw [h2, List.length_drop, e]
  rw [show s.size - r.length = p by omega]
  exact h3.cells.2.1

set_option maxRecDepth 100000 in
set_option maxHeartbeats 4000000 in
theorem parse_any (s : ByteArray) (hs : s.size ≤ maxLen) (w : World) (hsg : SignsAt w) : Calls Tryz.prog 63 #[.string s] w (ParsePost w s) := by
  unfold maxLen at hs
  by_cases hlong : 4096 < s.size
  · have HE : Hid (parseT s = (zeroT, 0, 2)) := by show _ = _; unfold parseT; rw [if_pos hlong]
    have hl : (4096 : Int) < (s.size : Int) := by omega
    clear hlong
    go_enter Tryz.func63, Tryz.ntmps63
    go_wp2_with fail
    refine bodyPost_ret (v := .tuple #[.agg #[.int .i64 0, .string ⟨#[]⟩, .slice none 0 0], .int .i64 0, .int .i64 2]) (by simp [results, Tryz.results63, go_sem]) rfl ?_
    exact ⟨0, ⟨#[]⟩, none, 0, 0, by rw [HE.out]; rfl, by rw [HE.out]; exact zero_form _ _, (Below.refl _ _).alloc (Nat.le_refl _) _⟩
  have hl : decide ((4096 : Int) < (s.size : Int)) = false := by simp; omega
  have HSG := hidIt hsg
  have hE0 : Hid (parseT s = judge s.size (readT s)) := by show _ = _; unfold parseT; rw [if_neg hlong]
  have hs4 : s.size ≤ 4096 := by omega
  clear hsg hlong
  go_enter Tryz.func63, Tryz.ntmps63
  go_wp2_with fail
  have hb2 : Below w.heap.size w ((w.alloc (.cells #[.int .i64 0, .string ⟨#[]⟩, .slice none 0 0] 24)).alloc (.cells #[.string s, .int .i64 0, .string ⟨#[]⟩] 102)) := ((Below.refl _ _).alloc (Nat.le_refl _) _).alloc (by simp) _
  have hpb : PBox ((w.alloc (.cells #[.int .i64 0, .string ⟨#[]⟩, .slice none 0 0] 24)).alloc (.cells #[.string s, .int .i64 0, .string ⟨#[]⟩] 102)) (w.heap.size + 1) s 0 ⟨#[]⟩ := heap_alloc_at (by simp)
  have hk0 : ((w.alloc (.cells #[.int .i64 0, .string ⟨#[]⟩, .slice none 0 0] 24)).alloc (.cells #[.string s, .int .i64 0, .string ⟨#[]⟩] 102)).heap[w.heap.size]? = some (.cells #[.int .i64 0, .string ⟨#[]⟩, .slice none 0 0] 24 (0, 0)) := blk_kept (heap_alloc_new w _) ((Below.refl _ _).alloc (Nat.le_refl _) _)
  have HB0 := hidIt hb2
  have HK0 := hidIt hk0
  have hsg2 := HSG.out.go hb2
  have h00 := HSG.out.lt
  refine (next_any s (by omega) 0 ⟨#[]⟩ (Nat.zero_le _) (w.heap.size + 1) (by omega) _ hpb hsg2).mono ?_
  rintro e w1 ⟨rfl, q, hq, hd, hbox, hg1⟩
  have hr0 : s.data.toList.drop q = skipS s.data.toList := hd
  rw [hr0] at hbox
  have HP1 : Hid (PAt w1 (w.heap.size + 1) s (skipS s.data.toList)) := ⟨⟨q, hq, hr0.symm, hbox⟩, hsg2.kept hg1 (fun e => by injection e with e; omega), by omega, hs4⟩
  have HB1 : Hid (w.grownBy w1 (some (w.heap.size + 1))) := only_trans (only_of_below hb2 _) hg1
  have HK1 := hidIt (own_kept hk0 hg1 (by omega))
  clear hb2 hpb hk0 hsg2 hq hd hbox hg1 hr0
  go_wp2_with fail
  refine ((all_ok (8 * (skipS s.data.toList).length + 7)).eqv (skipS s.data.toList) (Nat.le_refl _) w1 (w.heap.size + 1) s HP1.out).mono ?_
  rintro e w2 ⟨op, nm, a, k, c, rfl, hf, hp2, hg2⟩
  have hread : pF (8 * (skipS s.data.toList).length + 7) 0 (skipS s.data.toList) = readT s := rfl
  rw [hread] at hf hp2
  rw [hread]
  have HE0 := hE0
  cases hres : readT s with
  | mk o r1 =>
    rw [hres] at hf hp2
    have HE1 : Hid (parseT s = judge s.size (o, r1)) := HE0.out.trans (by rw [hres])
    simp only at hf hp2
    have HF2 : Hid (∀ f, o = some f → FormIn w2 (fun i => w.heap.size + 1 + 1 ≤ i) (.agg #[.int .i64 op, .string nm, .slice a k c]) f) := fun f hf' => (hf f hf').mono (fun i _ hi => by have := HP1.out.lt; omega)
    have HB2 := hidIt (only_trans HB1.out hg2)
    have HK2 := hidIt (own_kept HK1.out hg2 (by omega))
    have hR := lt_of_block HK2.out
    obtain ⟨r0, r1', r2⟩ := cell_of3 HK2.out
    obtain ⟨f0, f1, f2⟩ := cells_free HK2.out
    have hat := hp2.at
    have hlt2 := hp2.lt
    have hrl : r1.length ≤ s.size := by
      obtain ⟨p, h1, h2, h3⟩ := hp2.ex
      rw [h2, List.length_drop, size_data]
      omega
    clear hf hp2 hg2 HE0 hres hread
    obtain ⟨m, hm⟩ : ∃ m, m = s.size - r1.length := ⟨_, rfl⟩
    rw [← hm] at hat
    have hms : m ≤ s.size := by omega
    cases o with
    | none =>
      have HE2 : Hid (parseT s = (zeroT, m, 3)) := HE1.out.trans (by rw [hm]; rfl)
      clear hm
      go_wp2_with fail
      go_big_region
      go_wp2_with fail
      refine bodyPost_ret (v := .tuple #[.agg #[.int .i64 0, .string ⟨#[]⟩, .slice none 0 0], .int .i64 (m : Int), .int .i64 3]) (by simp [results, Tryz.results63, go_sem, r0, r1', r2, hR]) rfl ?_
      refine ⟨0, ⟨#[]⟩, none, 0, 0, by rw [HE2.out], by rw [HE2.out]; exact zero_form _ _, below_of_only (only_new HB2.out ?_ (Nat.le_refl w.heap.size)) (by omega)⟩
      exact only_drewN (only_alloc (set_three w2 w.heap.size _ _ _) _) 1
    | some f =>
      have HF3 := hidIt (HF2.out f rfl)
      by_cases hz : r1.length = 0
      · have hms2 : m = s.size := by omega
        have hlt9 : decide ((m : Int) < (s.size : Int)) = false := by simp; omega
        have hmm : decide (m < s.size) = false := by simp; omega
        by_cases hv : valE f = 0
        · have HE2 : Hid (parseT s = (f, 0, 0)) := HE1.out.trans (by simp only [judge]; rw [if_pos hz, if_pos hv])
          have HV := hidIt hv
          clear hm hz hv hms2
          go_wp2_with fail
          refine (validate_any f _ _ ((FormIn.free HF3.out).go ((Below.refl _ _).alloc (Nat.le_refl _) _))).mono ?_
          rintro e w3 ⟨rfl, hb3⟩
          rw [HV.out]
          have HB3 := hidIt (only_trans HB2.out (only_of_below (below_box hb3) _))
          have HK3 := hidIt (blk_kept HK2.out (below_box hb3))
          have HL3 := laid_box hb3
          have hL := lt_of_block HL3
          obtain ⟨l0, l1, l2⟩ := cell_of3 HL3
          clear r0 r1' r2 f0 f1 f2 hR hat
          have hR := lt_of_block HK3.out
          obtain ⟨r0, r1', r2⟩ := cell_of3 HK3.out
          obtain ⟨f0, f1, f2⟩ := cells_free HK3.out
          have HF4 := hidIt (HF3.out.go (below_box hb3))
          clear hb3 HL3
          go_wp2_with fail
          refine bodyPost_ret (v := .tuple #[.agg #[.int .i64 op, .string nm, .slice a k c], .int .i64 0, .int .i64 0]) (by simp [results, Tryz.results63, go_sem, r0, r1', r2, hR]) rfl ?_
          have hgF := set_three w3 w.heap.size (.int .i64 op) (.string nm) (.slice a k c)
          refine ⟨op, nm, a, k, c, by rw [HE2.out]; rfl, ?_, below_of_only (only_new HB3.out hgF (Nat.le_refl _)) (by omega)⟩
          rw [HE2.out]
          exact ((HF4.out).over (w1 := w) hgF (by omega)).mono (fun i _ hi => by omega)
        · have HE2 : Hid (parseT s = (zeroT, 0, 2)) := HE1.out.trans (by simp only [judge]; rw [if_pos hz, if_neg hv])
          have hvz : (valE f == 0) = false := by simp [hv]
          have HR := hidIt (valE_range' f)
          clear hm hz hv hms2
          go_wp2_with fail
          refine (validate_any f _ _ ((FormIn.free HF3.out).go ((Below.refl _ _).alloc (Nat.le_refl _) _))).mono ?_
          rintro e w3 ⟨rfl, hb3⟩
          have HB3 := hidIt (only_trans HB2.out (only_of_below (below_box hb3) _))
          have HK3 := hidIt (blk_kept HK2.out (below_box hb3))
          clear r0 r1' r2 f0 f1 f2 hR hat
          have hR := lt_of_block HK3.out
          obtain ⟨r0, r1', r2⟩ := cell_of3 HK3.out
          obtain ⟨f0, f1, f2⟩ := cells_free HK3.out
          clear hb3
          go_wp2_with fail
          refine bodyPost_ret (v := .tuple #[.agg #[.int .i64 0, .string ⟨#[]⟩, .slice none 0 0], .int .i64 0, .int .i64 2]) (by simp [results, Tryz.results63, go_sem, r0, r1', r2, hR]) rfl ?_
          have hgF := set_three w3 w.heap.size (.int .i64 0) (.string ⟨#[]⟩) (.slice none 0 0)
          exact ⟨0, ⟨#[]⟩, none, 0, 0, by rw [HE2.out]; rfl, by rw [HE2.out]; exact zero_form _ _, below_of_only (only_new HB3.out hgF (Nat.le_refl _)) (by omega)⟩
      · have HE2 : Hid (parseT s = (zeroT, m, 3)) := HE1.out.trans (by simp only [judge]; rw [if_neg hz, hm])
        have hlt9 : (m : Int) < (s.size : Int) := by omega
        have hmm : m < s.size := by omega
        clear hm hz
        go_wp2_with fail
        go_big_region
        go_wp2_with fail
        refine bodyPost_ret (v := .tuple #[.agg #[.int .i64 0, .string ⟨#[]⟩, .slice none 0 0], .int .i64 (m : Int), .int .i64 3]) (by simp [results, Tryz.results63, go_sem, r0, r1', r2, hR]) rfl ?_
        refine ⟨0, ⟨#[]⟩, none, 0, 0, by rw [HE2.out], by rw [HE2.out]; exact zero_form _ _, below_of_only (only_new HB2.out ?_ (Nat.le_refl w.heap.size)) (by omega)⟩
        exact only_drewN (only_alloc (set_three w2 w.heap.size _ _ _) _) 1
end Go.Proofs.YtilkpjcbmllgmaaGreatDoor

namespace Go.Proofs.YtilkpjcbmllgmaaGreatDoor
set_option linter.unusedVariables false
set_option linter.unusedSimpArgs false
open Go.RowKit

def exT : Tree := .node 7 ⟨#[]⟩ [.node 5 ⟨#[]⟩ [.node 3 ⟨#[97]⟩ [], .node 3 ⟨#[98]⟩ []], .node 3 ⟨#[99]⟩ []]
theorem ex1 : parseT ⟨#[97, 38, 98, 32, 45, 62, 32, 40, 99, 41]⟩ = (exT, 0, 0) := by kernel_rfl
theorem ex2 : parseT ⟨#[97, 32, 60, 45, 62, 32, 98, 32, 60, 45, 62, 32, 99]⟩ = (zeroT, 8, 3) := by kernel_rfl
theorem ex3 : parseT ⟨#[97, 32, 38]⟩ = (zeroT, 3, 3) := by kernel_rfl
theorem ex4 : fmtT exT = ⟨#[97, 32, 38, 32, 98, 32, 45, 62, 32, 99]⟩ := by kernel_rfl
theorem ex5 : fmtI exT = 0 := by kernel_rfl
theorem ex6 : exT.nodes = 5 := by kernel_rfl
theorem ex7 : exT.depth = 2 := by kernel_rfl

/-- Parse at a text whose outcome is known. -/
theorem parse_at (s : ByteArray) (hs : s.size ≤ maxLen) (t : Tree) (m : Nat) (x : Int) (h : parseT s = (t, m, x)) (w : World) (hsg : SignsAt w) :
    Calls Tryz.prog 63 #[.string s] w fun e w' => ∃ (a : Option Addr) (c : Nat), e = .returned (.tuple #[.agg #[.int .i64 t.op, .string t.name, .slice a t.args.length c], .int .i64 (m : Int), .int .i64 x]) ∧
      FormIn w' (fun i => w.heap.size ≤ i) (.agg #[.int .i64 t.op, .string t.name, .slice a t.args.length c]) t ∧ Below w.heap.size w w' :=
  (parse_any s hs w hsg).mono fun e w' ⟨op, nm, a, n, c, he, hf, hb⟩ => by
    rw [h] at he hf
    obtain ⟨rfl, rfl, rfl⟩ := hf.shape
    exact ⟨a, c, he, hf, hb⟩

set_option maxRecDepth 100000 in
set_option maxHeartbeats 2000000 in
theorem awake2_any (w : World) (hsg : SignsAt w) : Calls Tryz.prog 21 #[] w fun e w' => e = .returned (.bool true) ∧ Below w.heap.size w w' := by
  have HSG := hidIt hsg
  clear hsg
  go_enter Tryz.func21, Tryz.ntmps21
  go_wp2_with fail
  refine (parse_at _ (by unfold maxLen; decide) exT 0 0 ex1 w HSG.out).mono ?_
  rintro e w1 ⟨a, c, rfl, hf, hb⟩
  have e1 : exT.op = 7 := rfl
  have e2 : exT.name = ⟨#[]⟩ := rfl
  have e3 : exT.args.length = 2 := rfl
  rw [e1, e2, e3] at hf ⊢
  have HF := hidIt hf.free
  have HB := hidIt hb
  clear hb hf e1 e2 e3
  go_wp2_with fail
  refine (fformat_any exT _ _ (HF.out.go ((Below.refl _ _).alloc (Nat.le_refl _) _))).mono ?_
  rintro e w2 ⟨rfl, hb2⟩
  rw [ex4, ex5]
  have HB2 := hidIt (HB.out.trans ((below_box hb2).mono HB.out.size))
  have HK2 := hidIt (laid_box hb2)
  have hsz2 := lt_of_block HK2.out
  have HF2 := hidIt (HF.out.go (below_box hb2))
  clear hb2 HF
  go_wp2_with fail
  refine (parse_at _ (by unfold maxLen; decide) zeroT 8 3 ex2 w2 (HSG.out.go HB2.out)).mono ?_
  rintro e w3 ⟨a3, c3, rfl, hf3, hb3⟩
  have e1 : zeroT.op = 0 := rfl
  have e2 : zeroT.name = ⟨#[]⟩ := rfl
  have e3 : zeroT.args.length = 0 := rfl
  rw [e1, e2, e3]
  have HB3 := hidIt (HB2.out.trans (hb3.mono HB2.out.size))
  have HK3 := hidIt (blk_kept HK2.out hb3)
  have hsz3 := lt_of_block HK3.out
  have HF3 := hidIt (HF2.out.go hb3)
  clear hb3 HF2 hf3
  go_wp2_with fail
  refine (parse_at _ (by unfold maxLen; decide) zeroT 3 3 ex3 _ (HSG.out.go (HB3.out.alloc HB3.out.size _))).mono ?_
  rintro e w4 ⟨a4, c4, rfl, hf4, hb4⟩
  rw [e1, e2, e3]
  have HB4 := hidIt (HB3.out.trans ((below_box hb4).mono HB3.out.size))
  have HK4 := hidIt (blk_kept HK3.out (below_box hb4))
  have hsz4 := lt_of_block HK4.out
  obtain ⟨p0, p1, p2⟩ := cell_of3 HK4.out
  have HF4 := hidIt (HF3.out.go (below_box hb4))
  clear hb4 hf4 HF3 e1 e2 e3
  go_wp2_with fail
  refine (size_any exT _ _ (HF4.out.go ((Below.refl _ _).alloc (Nat.le_refl _) _)) (by rw [ex6]; omega)).mono ?_
  rintro e w5 ⟨rfl, hb5⟩
  rw [ex6]
  have HB5 := hidIt (HB4.out.trans ((below_box hb5).mono HB4.out.size))
  have HK5 := hidIt (blk_kept HK4.out (below_box hb5))
  have hsz5 := lt_of_block HK5.out
  have HF5 := hidIt (HF4.out.go (below_box hb5))
  clear p0 p1 p2 hb5
  obtain ⟨p0, p1, p2⟩ := cell_of3 HK5.out
  go_wp2_with fail
  refine (depth_any exT _ _ HF5.out (by rw [ex6]; omega)).mono ?_
  rintro e w6 ⟨rfl, hb6⟩
  rw [ex7]
  have HB6 := hidIt (HB5.out.trans (hb6.mono HB5.out.size))
  clear hb6
  go_wp2_with fail
  go_ret
  exact ⟨rfl, HB6.out⟩
end Go.Proofs.YtilkpjcbmllgmaaGreatDoor

namespace Go.Proofs.YtilkpjcbmllgmaaGreatDoor
set_option linter.unusedVariables false
set_option linter.unusedSimpArgs false
open Go Go.RowKit

theorem wellF_node {op : Int} {ts : List Tree} (hk : kindB (.node op ⟨#[]⟩ ts) = true) (ho : op ≠ 3) (h : ∀ t ∈ ts, wellF t = true) : wellF (.node op ⟨#[]⟩ ts) = true := by
  have hn : nameB (.node op ⟨#[]⟩ ts) = true := by
    unfold nameB
    rw [if_neg (show ¬ (Tree.node op ⟨#[]⟩ ts).op = 3 from ho)]
    rfl
  have h1 : allL (fun t => kindB t && nameB t) ts = true := by
    clear hk hn
    induction ts with
    | nil => rfl
    | cons t ts ih => simp only [allL, Bool.and_eq_true]; exact ⟨h t (by simp), ih fun x hx => h x (by simp [hx])⟩
  show (kindB _ && nameB _ && allL _ ts) = true
  rw [hk, hn, h1]
  rfl
theorem wellF_gen {n : Nat} {t : Tree} (h : t.all (nodeG n) = true) : wellF t = true := all_imp (fun t ht => by rw [nodeG_kind ht, nodeG_name ht]; rfl) t h

theorem evalB_well {t : Tree} (h : wellF t = true) (y : List ByteArray) : evalB t y = valueB (inB y) t := by unfold evalB; rw [h, Bool.true_and]
theorem ev4 {f : Tree} (hf : wellF f = true) : wellF (.node 4 ⟨#[]⟩ [f]) = true ∧ ∀ y, evalB (.node 4 ⟨#[]⟩ [f]) y = !evalB f y := by
  have h : wellF (.node 4 ⟨#[]⟩ [f]) = true := wellF_node rfl (by decide) (by simpa using hf)
  refine ⟨h, fun y => ?_⟩
  rw [evalB_well h, evalB_well hf]
  simp [valueB, valuesB]
theorem ev5 {f g : Tree} (hf : wellF f = true) (hg : wellF g = true) : wellF (.node 5 ⟨#[]⟩ [f, g]) = true ∧ ∀ y, evalB (.node 5 ⟨#[]⟩ [f, g]) y = (evalB f y && evalB g y) := by
  have h : wellF (.node 5 ⟨#[]⟩ [f, g]) = true := wellF_node rfl (by decide) (by simp [hf, hg])
  refine ⟨h, fun y => ?_⟩
  rw [evalB_well h, evalB_well hf, evalB_well hg]
  simp [valueB, valuesB]
theorem ev6 {f g : Tree} (hf : wellF f = true) (hg : wellF g = true) : wellF (.node 6 ⟨#[]⟩ [f, g]) = true ∧ ∀ y, evalB (.node 6 ⟨#[]⟩ [f, g]) y = (evalB f y || evalB g y) := by
  have h : wellF (.node 6 ⟨#[]⟩ [f, g]) = true := wellF_node rfl (by decide) (by simp [hf, hg])
  refine ⟨h, fun y => ?_⟩
  rw [evalB_well h, evalB_well hf, evalB_well hg]
  simp [valueB, valuesB]
theorem ev7 {f g : Tree} (hf : wellF f = true) (hg : wellF g = true) : wellF (.node 7 ⟨#[]⟩ [f, g]) = true ∧ ∀ y, evalB (.node 7 ⟨#[]⟩ [f, g]) y = (!evalB f y || evalB g y) := by
  have h : wellF (.node 7 ⟨#[]⟩ [f, g]) = true := wellF_node rfl (by decide) (by simp [hf, hg])
  refine ⟨h, fun y => ?_⟩
  rw [evalB_well h, evalB_well hf, evalB_well hg]
  simp [valueB, valuesB]
theorem ev8 {f g : Tree} (hf : wellF f = true) (hg : wellF g = true) : wellF (.node 8 ⟨#[]⟩ [f, g]) = true ∧ ∀ y, evalB (.node 8 ⟨#[]⟩ [f, g]) y = (evalB f y == evalB g y) := by
  have h : wellF (.node 8 ⟨#[]⟩ [f, g]) = true := wellF_node rfl (by decide) (by simp [hf, hg])
  refine ⟨h, fun y => ?_⟩
  rw [evalB_well h, evalB_well hf, evalB_well hg]
  simp [valueB, valuesB]

/-- Every block. -/
def anyS : Nat → Prop := fun b => (none : Option Nat) ≠ some b
theorem anyS_all (b : Nat) : anyS b := fun e => by cases e

/-- Eval in the walk. -/
theorem rel_eval {W w : World} (hC : Ext W w) {t : Tree} {v : Value} (hv : FormAt w none v t) {ya : Option Addr} {yc : Nat} {yes : List ByteArray} (hn : yes.length ≤ 1000000) (hy : StrsIn W (fun _ => True) ya yes) {b : Bool} (hb : evalB t yes = b) :
    Calls Tryz.prog 14 #[v, .slice ya yes.length yc] w fun e w'' => ∃ u, e = .returned u ∧ Ext W w'' ∧ Grows w w'' ∧ isB b u w'' :=
  rel_call hC ((eval_any t v ya yc yes hn w hv (StrsIn.go hy hC)).mono fun _ _ ⟨he, hbl⟩ => ⟨_, he, by rw [hb]; rfl, hbl⟩)
theorem ext_cell {W : World} {b o : Nat} {v : Value} (h : W.cell? ⟨b, o, none⟩ = some v) : ∀ w, Ext W w → w.cell? ⟨b, o, none⟩ = some v := fun w hw => Ext.cell h ⟨w, hw⟩

/-- A box with a formula, beside the reader's block b. -/
structure FBox (w : World) (b p : Nat) (o : Int) (s : ByteArray) (a : Option Addr) (n c : Nat) (t : Tree) : Prop where
  ne : p ≠ b
  blk : w.heap[p]? = some (.cells #[.int .i64 o, .string s, .slice a n c] 24 (0, 0))
  form : FormAt w (some b) (.agg #[.int .i64 o, .string s, .slice a n c]) t
theorem FBox.kept {w w' : World} {b p : Nat} {o : Int} {s : ByteArray} {a : Option Addr} {n c : Nat} {t : Tree} (h : FBox w b p o s a n c t) (hg : w.grownBy w' (some b)) : FBox w' b p o s a n c t :=
  ⟨h.ne, by rw [hg.block p (lt_of_block h.blk) (fun e => h.ne (by injection e))]; exact h.blk, FormAt.kept h.form hg⟩
theorem FBox.go {w w' : World} {b p : Nat} {o : Int} {s : ByteArray} {a : Option Addr} {n c : Nat} {t : Tree} (h : FBox w b p o s a n c t) (hb : Below w.heap.size w w') : FBox w' b p o s a n c t := h.kept (only_of_below hb _)
end Go.Proofs.YtilkpjcbmllgmaaGreatDoor

namespace Go.Proofs.YtilkpjcbmllgmaaGreatDoor
set_option linter.unusedVariables false
set_option linter.unusedSimpArgs false
open Go.ChangeShapes Go.WideShapes Go.ChangeAt Go.RowKit

theorem ownKn : ownKnob Tryz.prog.godebug = none := by kernel_rfl
theorem laidOutF : laidOutB Tryz.prog = true := by kernel_rfl

/-- A list of ints that came in: nil, or a row of as many cells as it may grow to. -/
def IsRow (w : World) (a : Option Addr) (len cap : Nat) (zs : List Int) : Prop :=
  (a = none ∧ len = 0 ∧ cap = 0 ∧ zs = []) ∨
  ∃ x, a = some x ∧ len ≤ cap ∧ cap ≤ maxLen ∧ zs.length = cap ∧ (∀ i, i < zs.length → w.cell? (x.add i) = some (.int .i64 (zs.getD i 0))) ∧ ∀ n ∈ zs, (Lit.int .i64 n).wf = true

theorem spot_none {x : Addr} {w : World} {v : Value} (h : w.cell? (x.add 0) = some v) : x = ⟨x.block, x.off, none⟩ := by
  obtain ⟨b, off, spot⟩ := x
  cases spot with
  | none => rfl
  | some s =>
    exfalso
    unfold World.cell? at h
    unfold Addr.add at h
    split at h
    · split at h <;> simp_all
    · cases h

theorem add_plain (b off i : Nat) : (⟨b, off, none⟩ : Addr).add i = ⟨b, off + i, none⟩ := by unfold Addr.add; split <;> simp_all

theorem ints_of_row {w : World} {a : Option Addr} {len cap : Nat} {zs : List Int} (h : IsRow w a len cap zs) : IntsAt w w.heap.size (.slice a len cap) (zs.take len) := by
  rcases h with ⟨rfl, rfl, rfl, rfl⟩ | ⟨x, rfl, h1, h2, h3, h4, h5⟩
  · exact .inl ⟨rfl, rfl⟩
  · have hl : (zs.take len).length = len := by rw [List.length_take]; omega
    refine .inr ⟨x, cap, by rw [hl], by omega, h2, fun i hi => ?_, fun i => ?_⟩
    · rw [hl] at hi
      have hc := h4 i (by omega)
      have e1 := spot_none (h4 0 (by omega))
      rw [e1, add_plain] at hc
      exact ⟨x.block, x.off, e1, World.block_lt_of_cell? w ⟨x.block, x.off + i, none⟩ hc, by rw [getD_take, if_pos hi]; exact hc⟩
    · rw [getD_take]
      split
      · by_cases hi : i < zs.length
        · have hm : zs.getD i 0 ∈ zs := by
            rw [List.getD_eq_getElem?_getD, List.getElem?_eq_getElem hi]
            exact List.getElem_mem hi
          have hw := h5 _ hm
          simp only [Lit.wf, Bool.and_eq_true, decide_eq_true_eq] at hw
          exact hw
        · rw [List.getD_eq_getElem?_getD, List.getElem?_eq_none (by omega)]
          simp
      · omega
end Go.Proofs.YtilkpjcbmllgmaaGreatDoor

namespace Go.Proofs.YtilkpjcbmllgmaaGreatDoor
set_option linter.unusedVariables false
set_option linter.unusedSimpArgs false
open Go.ChangeShapes Go.WideShapes Go.ChangeAt Go.RowKit Go.Joins

theorem three_of_len {α : Type} : ∀ (cs : List α), cs.length = 3 → ∃ a b c, cs = [a, b, c]
  | [a, b, c], _ => ⟨a, b, c, rfl⟩
theorem formCellsF : Tryz.prog.cellsOf 24 = 3 := by kernel_rfl

theorem trod_struct3F {H : Type} {enc : TypeId × Value → H} {P : Program} {w : World} {base : Nat} {spare : Nat → Bool} {held : Bool} {t : TypeId} {f0 f1 f2 : Field} {fuel : Nat} {cs : List Value} {x : DataW H × List MemPlace} (ht : P.underlying t = some (.struct #[f0, f1, f2])) (h : DataW.trod enc P w base spare held fuel t cs = some x) :
    ∃ y0 y1 y2 n, fuel = n + 1 ∧ cs.length = P.cellsOf t ∧ DataW.trod enc P w base spare held n f0.type ((cs.drop f0.offset).take (P.cellsOf f0.type)) = some y0 ∧
      DataW.trod enc P w base spare held n f1.type ((cs.drop f1.offset).take (P.cellsOf f1.type)) = some y1 ∧ DataW.trod enc P w base spare held n f2.type ((cs.drop f2.offset).take (P.cellsOf f2.type)) = some y2 := by
  obtain ⟨xs, n, hn, -, hl, hlen, hf⟩ := DataW.trod_struct ht h
  match xs, hlen with
  | [y0, y1, y2], _ => exact ⟨y0, y1, y2, n, hn, hl, by simpa using hf 0 f0 rfl, by simpa using hf 1 f1 rfl, by simpa using hf 2 f2 rfl⟩

theorem form_trod {H : Type} {enc : TypeId × Value → H} {w : World} {base : Nat} {spare : Nat → Bool} {held : Bool} : ∀ (m fuel : Nat), fuel ≤ m → ∀ (cs : List Value) (y : DataW H × List MemPlace),
    DataW.trod enc Tryz.prog w base spare held fuel 24 cs = some y → ∃ (t : Tree) (a : Option Addr) (cap : Nat), cs = [.int .i64 t.op, .string t.name, .slice a t.args.length cap] ∧ FormAt w none (.agg #[.int .i64 t.op, .string t.name, .slice a t.args.length cap]) t := by
  intro m
  induction m with
  | zero =>
    intro fuel hm cs y h
    obtain ⟨y0, y1, y2, n, hn, -⟩ := trod_struct3F Tryz.underlying24 h
    omega
  | succ m ih =>
    intro fuel hm cs y h
    obtain ⟨y0, y1, y2, n, hn, hl, h0, h1, h2⟩ := trod_struct3F Tryz.underlying24 h
    obtain ⟨c0, c1, c2, rfl⟩ := three_of_len cs (hl.trans formCellsF)
    have e0 : ([c0, c1, c2].drop 0).take (Tryz.prog.cellsOf 3) = [c0] := by rw [show Tryz.prog.cellsOf 3 = 1 by kernel_rfl]; rfl
    have e1 : ([c0, c1, c2].drop 1).take (Tryz.prog.cellsOf 9) = [c1] := by rw [show Tryz.prog.cellsOf 9 = 1 by kernel_rfl]; rfl
    have e2 : ([c0, c1, c2].drop 2).take (Tryz.prog.cellsOf 22) = [c2] := by rw [show Tryz.prog.cellsOf 22 = 1 by kernel_rfl]; rfl
    have h0' : DataW.trod enc Tryz.prog w base spare held n 3 (([c0, c1, c2].drop 0).take (Tryz.prog.cellsOf 3)) = some y0 := h0
    have h1' : DataW.trod enc Tryz.prog w base spare held n 9 (([c0, c1, c2].drop 1).take (Tryz.prog.cellsOf 9)) = some y1 := h1
    have h2' : DataW.trod enc Tryz.prog w base spare held n 22 (([c0, c1, c2].drop 2).take (Tryz.prog.cellsOf 22)) = some y2 := h2
    rw [e0] at h0'
    rw [e1] at h1'
    rw [e2] at h2'
    obtain ⟨o, ho, -, hwf⟩ := DataW.trod_int Tryz.underlying3 h0'
    obtain ⟨s, hs, -, hsz⟩ := DataW.trod_string Tryz.underlying9 h1'
    simp only [List.cons.injEq, and_true] at ho hs
    subst ho hs
    have hop : I64 o := by simp only [Lit.wf, Bool.and_eq_true, decide_eq_true_eq] at hwf; exact hwf
    rcases DataW.trod_slice Tryz.underlying22 h2' with ⟨hcs, -⟩ | ⟨x, l, c, elems, rest, n2, hn2, hcs, -, hb, hlc, hmx, hlen, hel, -, -⟩
    · simp only [List.cons.injEq, and_true] at hcs
      subst hcs
      exact ⟨.node o s [], none, 0, rfl, FormIn.mk (FormsIn.nil none) rfl hop hsz (Nat.le_refl _) (Nat.zero_le _)⟩
    · simp only [List.cons.injEq, and_true] at hcs
      subst hcs
      obtain ⟨b, off, sp⟩ := x
      have key : ∀ i, i < l → ∃ (t : Tree) (a : Option Addr) (cap : Nat), w.cell? ((⟨b, off, sp⟩ : Addr).add (i * 3 + 0)) = some (.int .i64 t.op) ∧ w.cell? ((⟨b, off, sp⟩ : Addr).add (i * 3 + 1)) = some (.string t.name) ∧ w.cell? ((⟨b, off, sp⟩ : Addr).add (i * 3 + 2)) = some (.slice a t.args.length cap) ∧
          FormAt w none (.agg #[.int .i64 t.op, .string t.name, .slice a t.args.length cap]) t := fun i hi => by
        have h3 := hel i hi
        rw [formCellsF, List.getElem?_eq_getElem (by omega)] at h3
        obtain ⟨cs', hc, ht⟩ := Option.bind_eq_some_iff.1 h3
        obtain ⟨-, hcl, hat⟩ := World.cells?_some hc
        obtain ⟨t, a, cap, rfl, hF⟩ := ih n2 (by omega) cs' _ ht
        have add_add : ∀ (a : Addr) (i j : Nat), (a.add i).add j = a.add (i + j) := fun a i j => by
          unfold Addr.add
          repeat' split
          all_goals first | (simp; omega) | (exfalso; omega) | simp_all
        have g0 := hat 0 (by omega)
        have g1 := hat 1 (by omega)
        have g2 := hat 2 (by omega)
        rw [add_add] at g0 g1 g2
        exact ⟨t, a, cap, g0, g1, g2, hF⟩
      have hsp : 0 < l → sp = none := fun hl0 => by
        obtain ⟨t, a, cap, g0, -⟩ := key 0 hl0
        have e : (⟨b, off, sp⟩ : Addr).add (0 * 3 + 0) = ⟨b, off, sp⟩ := by simp [Addr.add]
        rw [e] at g0
        unfold World.cell? at g0
        cases sp with
        | none => rfl
        | some q =>
          exfalso
          simp only [Option.isSome_some, if_true] at g0
          split at g0 <;> cases g0
      have key2 : ∀ i, ∃ q : Tree × Option Addr × Nat, i < l → w.cell? ⟨b, off + i * 3, none⟩ = some (.int .i64 q.1.op) ∧ w.cell? ⟨b, off + i * 3 + 1, none⟩ = some (.string q.1.name) ∧ w.cell? ⟨b, off + i * 3 + 2, none⟩ = some (.slice q.2.1 q.1.args.length q.2.2) ∧
          FormAt w none (.agg #[.int .i64 q.1.op, .string q.1.name, .slice q.2.1 q.1.args.length q.2.2]) q.1 := fun i => by
        by_cases hi : i < l
        · obtain ⟨t, a, cap, g0, g1, g2, hF⟩ := key i hi
          obtain rfl := hsp (by omega)
          rw [add_plain] at g0 g1 g2
          exact ⟨⟨t, a, cap⟩, fun _ => ⟨g0, g1, g2, hF⟩⟩
        · exact ⟨default, fun h => absurd h hi⟩
      have hlen' : ((List.range l).map fun i => (Classical.choose (key2 i)).1).length = l := by simp
      have hget : ∀ i (hi : i < ((List.range l).map fun i => (Classical.choose (key2 i)).1).length), ((List.range l).map fun i => (Classical.choose (key2 i)).1)[i] = (Classical.choose (key2 i)).1 := fun i hi => by simp
      have hFS : FormsAt w none (some ⟨b, off, sp⟩) ((List.range l).map fun i => (Classical.choose (key2 i)).1) := by
        refine ⟨b, off, fun h0 => ⟨by rw [hsp (by rw [hlen'] at h0; exact h0)], by simp⟩, fun i hi => ?_⟩
        have hi' : i < l := by rw [hlen'] at hi; exact hi
        obtain ⟨g0, g1, g2, hF⟩ := Classical.choose_spec (key2 i) hi'
        rw [hget i hi]
        exact ⟨_, _, g0, g1, g2, hF⟩
      refine ⟨.node o s ((List.range l).map fun i => (Classical.choose (key2 i)).1), some ⟨b, off, sp⟩, c, ?_, ?_⟩
      · simp only [Tree.op_node, Tree.name_node, Tree.args_node, hlen']
      · simp only [Tree.op_node, Tree.name_node, Tree.args_node]
        exact FormIn.mk hFS rfl hop hsz (by rw [hlen']; exact hlc) hmx

set_option maxRecDepth 100000 in
theorem form_open {H : Type} {enc : TypeId × Value → H} {w : World} {r : Reach} {b0 base : Nat} {spare : Nat → Bool} {held : Bool} {v : Value} {d : DataW H} {p : List MemPlace}
    (hv : Value.okWide Tryz.prog w r b0 24 v) (h : DataW.Trod enc Tryz.prog w base spare held 24 v d p) : ∃ t : Tree, FormAt w none v t := by
  obtain ⟨fuel, hf⟩ := h
  obtain ⟨t, a, cap, hcs, hF⟩ := form_trod fuel fuel (Nat.le_refl _) _ _ hf
  simp only [Value.okWide, Tryz.underlying24] at hv
  obtain ⟨cs, rfl, -, -⟩ := hv
  refine ⟨t, ?_⟩
  have e : cs = #[.int .i64 t.op, .string t.name, .slice a t.args.length cap] := by
    obtain ⟨l⟩ := cs
    simpa [Value.cells] using hcs
  rw [e]
  exact hF
end Go.Proofs.YtilkpjcbmllgmaaGreatDoor

namespace Go.Proofs.YtilkpjcbmllgmaaGreatDoor
set_option linter.unusedVariables false
set_option linter.unusedSimpArgs false
open Go.ChangeShapes Go.WideShapes Go.ChangeAt Go.RowKit Go.Joins

theorem OwnS.made (w : World) (B : Nat) (hB : B ≤ w.heap.size) : OwnS (w.alloc (.cells #[] 9)) B (.slice (some ⟨w.heap.size, 0, none⟩) 0 0) [] :=
  ⟨⟨rfl, .inr ⟨w.heap.size, 0, #[], rfl, hB, heap_alloc_new w _, Nat.le_refl _, Nat.zero_le _, rfl, rfl⟩⟩, fun s h => by cases h⟩

/-- append of a list of strings. -/
theorem wpList_append_strs {w : World} {ops : Array Oper} {rest : List Oper} {o : Oper} {a : Act} {Q : Exit → Act → World → Prop} (hgd : o.guard = none) (s x : Operand)
    (ho : o.op = .call { callee := .builtin .append, args := #[s, x], argTypes := #[25, 25] }) (B : Nat) (v : Value) (l : List ByteArray) (hs : a.eval s = v) (hown : OwnS w B v l)
    (B2 : Nat) (vx : Value) (m : List ByteArray) (hx : a.eval x = vx) (hxo : OwnS w B2 vx m) (hlen : l.length ≤ 1000000) (hlen2 : m.length ≤ 1000000) (hB : B ≤ w.heap.size)
    (h : ∀ v' w', OwnS w' B v' (l ++ m) → w.grownBy w' v.ownBlock → wpList Tryz.prog ops Q rest (a.put o.dst v') w') : wpList Tryz.prog ops Q (o :: rest) a w := by
  obtain ⟨i0, hi, hz0, hz1, hz2⟩ := info_parts infoStr
  rcases hxo.1.2 with ⟨rfl, h0⟩ | ⟨g, cap, cur, rfl, hg, hgb, hnc, hcm, hcs, htake⟩
  · obtain rfl : m = [] := List.eq_nil_of_length_eq_zero h0
    refine wpList_append_own_none hgd s x 25 ho B 9 i0 1 Tryz.underlying25 hi v l.length _ hs hown.1 hx (h v w ?_ (only_refl w _))
    rw [List.append_nil]
    exact hown
  · refine wpList_append_own w hgd s x 25 ho B 9 i0 _ 1 16 Tryz.underlying25 hi hz0 hz1 hz2 rfl (by decide) v l.length _ hs hown.1 ⟨g, 0, none⟩ m.length cap (m.map Value.string) hx (by simp) ?_ (fun u hu => by obtain ⟨t, -, rfl⟩ := List.mem_map.1 hu; rfl) (by unfold maxLen; omega) (by omega) hB (fun v' w' h2 h3 _ => ?_)
    · intro j u hj
      exact World.ownsRow.cells hxo.1 (g := g) rfl j u hj
    · refine h v' w' ⟨?_, fun t ht => ?_⟩ h3
      · rw [List.map_append, List.length_append]
        exact h2
      · rcases List.mem_append.1 ht with h4 | h4
        · exact hown.2 t h4
        · exact hxo.2 t h4

theorem below_over2 {w1 w wa w' : World} {row : Option Nat} (h : Below w1.heap.size w1 w) (ha : Below w.heap.size w wa) (hg : wa.grownBy w' row) (hr : ∀ g, row = some g → w1.heap.size ≤ g) : Below w1.heap.size w1 w' :=
  have h2 := h.trans (Below.mono ha h.size)
  ⟨hg.os.trans h2.os, hg.tape.trans h2.tape, hg.output.trans h2.output, Nat.le_trans h2.size hg.size, fun i hi => (hg.block i (Nat.lt_of_lt_of_le hi h2.size) (fun e => by have := hr i e.symm; omega)).trans (h2.block i hi)⟩

theorem OwnS.strs {w : World} {B n c : Nat} {a : Option Addr} {l : List ByteArray} (h : OwnS w B (.slice a n c) l) : StrsIn w (fun _ => True) a l := by
  obtain ⟨a', c', e, -, -, hs⟩ := h.form
  injection e with e1
  subst e1
  exact hs.mono fun _ _ _ => trivial

/-- A list of strings that came in. -/
def StrsArg (w : World) (v : Value) (l : List ByteArray) : Prop := ∃ (a : Option Addr) (c : Nat), v = .slice a l.length c ∧ l.length ≤ c ∧ c ≤ maxLen ∧ StrsIn w (fun _ => True) a l

set_option maxRecDepth 100000 in
theorem strs_of_trod {H : Type} {enc : TypeId × Value → H} {w : World} {r : Reach} {b0 base : Nat} {spare : Nat → Bool} {held : Bool} {v : Value} {d : DataW H} {p : List MemPlace}
    (hv : Value.okWide Tryz.prog w r b0 25 v) (h : DataW.Trod enc Tryz.prog w base spare held 25 v d p) : ∃ l : List ByteArray, StrsArg w v l := by
  obtain ⟨a, len, cap, rfl⟩ := okWide_slice Tryz.underlying25 hv
  obtain ⟨fuel, hf⟩ := h
  rcases DataW.trod_slice Tryz.underlying25 hf with ⟨hcs, -⟩ | ⟨x, l, c, elems, rest, n2, hn2, hcs, -, hb, hlc, hmx, hlen, hel, -, -⟩
  · simp [Value.cells] at hcs
    obtain ⟨rfl, rfl, rfl⟩ := hcs
    exact ⟨[], none, 0, rfl, Nat.le_refl _, Nat.zero_le _, StrsIn.nil none⟩
  · simp [Value.cells] at hcs
    obtain ⟨rfl, rfl, rfl⟩ := hcs
    obtain ⟨b, off, sp⟩ := x
    have hC : Tryz.prog.cellsOf 9 = 1 := by kernel_rfl
    have key : ∀ i, i < len → ∃ s : ByteArray, w.cell? ((⟨b, off, sp⟩ : Addr).add i) = some (.string s) ∧ s.size ≤ maxLen := fun i hi => by
      have h3 := hel i hi
      rw [hC, List.getElem?_eq_getElem (by omega), Nat.mul_one] at h3
      obtain ⟨cs', hc, ht⟩ := Option.bind_eq_some_iff.1 h3
      obtain ⟨-, hcl, hat⟩ := World.cells?_some hc
      obtain ⟨s, rfl, -, hs⟩ := DataW.trod_string Tryz.underlying9 ht
      have g0 := hat 0 (by omega)
      have e : ((⟨b, off, sp⟩ : Addr).add i).add 0 = (⟨b, off, sp⟩ : Addr).add i := by simp [Addr.add]
      rw [e] at g0
      exact ⟨s, g0, hs⟩
    have hsp : 0 < len → sp = none := fun hl0 => by
      obtain ⟨s, g0, -⟩ := key 0 hl0
      have e : (⟨b, off, sp⟩ : Addr).add 0 = ⟨b, off, sp⟩ := by simp [Addr.add]
      rw [e] at g0
      unfold World.cell? at g0
      cases sp with
      | none => rfl
      | some q =>
        exfalso
        simp only [Option.isSome_some, if_true] at g0
        split at g0 <;> cases g0
    have key2 : ∀ i, ∃ s : ByteArray, i < len → w.cell? ⟨b, off + i, none⟩ = some (.string s) ∧ s.size ≤ maxLen := fun i => by
      by_cases hi : i < len
      · obtain ⟨s, g0, hs⟩ := key i hi
        obtain rfl := hsp (by omega)
        rw [add_plain] at g0
        exact ⟨s, fun _ => ⟨g0, hs⟩⟩
      · exact ⟨⟨#[]⟩, fun h => absurd h hi⟩
    have hlen' : ((List.range len).map fun i => Classical.choose (key2 i)).length = len := by simp
    refine ⟨(List.range len).map fun i => Classical.choose (key2 i), some ⟨b, off, sp⟩, cap, by rw [hlen'], by rw [hlen']; exact hlc, hmx, b, off, fun h0 => ⟨by rw [hsp (by rw [hlen'] at h0; exact h0)], trivial⟩, fun i hi => ?_⟩
    have hi' : i < len := by rw [hlen'] at hi; exact hi
    obtain ⟨g0, hs⟩ := Classical.choose_spec (key2 i) hi'
    have e : ((List.range len).map fun i => Classical.choose (key2 i))[i] = Classical.choose (key2 i) := by simp
    rw [e]
    exact ⟨g0, hs⟩

set_option maxRecDepth 100000 in
theorem form_of_trod {H : Type} {enc : TypeId × Value → H} {w : World} {r : Reach} {b0 base : Nat} {spare : Nat → Bool} {held : Bool} {v : Value} {d : DataW H} {p : List MemPlace}
    (hv : Value.okWide Tryz.prog w r b0 24 v) (h : DataW.Trod enc Tryz.prog w base spare held 24 v d p) : ∃ t : Tree, FormAt w none v t := form_open hv h
end Go.Proofs.YtilkpjcbmllgmaaGreatDoor

namespace Go.Proofs.YtilkpjcbmllgmaaGreatDoor
set_option linter.unusedVariables false
set_option linter.unusedSimpArgs false
open Go Go.RowKit

/-- The set of those of the first n worlds of which p says yes. -/
def wsetN (p : Nat → Bool) (n : Nat) : BitVec 64 := (List.range n).foldl (fun s w => if p w then s ||| BitVec.twoPow 64 w else s) 0#64
theorem wsetN_succ (p : Nat → Bool) (n : Nat) : wsetN p (n + 1) = if p n then wsetN p n ||| BitVec.twoPow 64 n else wsetN p n := by
  unfold wsetN
  rw [List.range_succ, List.foldl_append]
  rfl
theorem wsetN_bit (p : Nat → Bool) (n j : Nat) : (wsetN p n).getLsbD j = (decide (j < n) && decide (j < 64) && p j) := by
  induction n with
  | zero => simp [wsetN]
  | succ n ih =>
    rw [wsetN_succ]
    split
    · rename_i h
      rw [BitVec.getLsbD_or, ih, BitVec.getLsbD_twoPow]
      by_cases e : n = j
      · subst e
        simp [h]
      · have : (decide (j < n + 1)) = decide (j < n) := by rw [decide_eq_decide]; omega
        simp [e, this]
    · rename_i h
      rw [ih]
      by_cases e : n = j
      · subst e
        simp [h]
      · have : (decide (j < n + 1)) = decide (j < n) := by rw [decide_eq_decide]; omega
        simp [this]
/-- The set of the worlds of which p says yes. -/
def wset (p : Nat → Bool) : BitVec 64 := wsetN p 64
theorem wset_bit (p : Nat → Bool) (j : Nat) (h : j < 64) : (wset p).getLsbD j = p j := by
  rw [wset, wsetN_bit]
  simp [h]
theorem set_ext {S T : BitVec 64} (h : ∀ j, j < 64 → S.getLsbD j = T.getLsbD j) : S = T := BitVec.eq_of_getLsbD_eq fun i hi => h i hi

/-- A set as a value. -/
abbrev bv (S : BitVec 64) : Value := .int .u64 (S.toNat : Int)

theorem toNat_lt64 (S : BitVec 64) : S.toNat < 18446744073709551616 := S.isLt
theorem ofInt_bv (S : BitVec 64) : BitVec.ofInt 64 (S.toNat : Int) = S := by
  rw [BitVec.ofInt_natCast, BitVec.ofNat_toNat, BitVec.setWidth_eq]
theorem wrap_bv (S : BitVec 64) : IntKind.u64.wrap (S.toNat : Int) = (S.toNat : Int) := by
  have h := S.isLt
  rw [IntKind.wrap_u64]
  omega
theorem bits_and_bv (S T : BitVec 64) : bits .and .u64 (S.toNat : Int) (T.toNat : Int) = ((S &&& T).toNat : Int) := by
  show IntKind.u64.wrap ((BitVec.ofInt 64 (S.toNat : Int) &&& BitVec.ofInt 64 (T.toNat : Int)).toNat : Int) = _
  rw [ofInt_bv, ofInt_bv, wrap_bv]
theorem bits_or_bv (S T : BitVec 64) : bits .or .u64 (S.toNat : Int) (T.toNat : Int) = ((S ||| T).toNat : Int) := by
  show IntKind.u64.wrap ((BitVec.ofInt 64 (S.toNat : Int) ||| BitVec.ofInt 64 (T.toNat : Int)).toNat : Int) = _
  rw [ofInt_bv, ofInt_bv, wrap_bv]
theorem bits_xor_bv (S T : BitVec 64) : bits .xor .u64 (S.toNat : Int) (T.toNat : Int) = ((S ^^^ T).toNat : Int) := by
  show IntKind.u64.wrap ((BitVec.ofInt 64 (S.toNat : Int) ^^^ BitVec.ofInt 64 (T.toNat : Int)).toNat : Int) = _
  rw [ofInt_bv, ofInt_bv, wrap_bv]
theorem bits_andNot_bv (S T : BitVec 64) : bits .andNot .u64 (S.toNat : Int) (T.toNat : Int) = ((S &&& ~~~T).toNat : Int) := by
  show IntKind.u64.wrap ((BitVec.ofInt 64 (S.toNat : Int) &&& ~~~BitVec.ofInt 64 (T.toNat : Int)).toNat : Int) = _
  rw [ofInt_bv, ofInt_bv, wrap_bv]
theorem bv_ext {S T : BitVec 64} (h : (S.toNat : Int) = (T.toNat : Int)) : S = T := BitVec.eq_of_toNat_eq (by omega)

/-- The index of a name. -/
def idxB (voc : List ByteArray) (s : ByteArray) : Nat := voc.findIdx fun x => x.data.toList == s.data.toList
/-- Is the atom true in the world w? -/
def atomAt (voc : List ByteArray) (w : Nat) (s : ByteArray) : Bool := w.testBit (idxB voc s)

theorem ret_pair {k1 k2 : IntKind} {a b c d : Int} (h : a = b) (k : c = d) : Ending.returned (.tuple #[.int k1 a, .int k2 c]) = .returned (.tuple #[.int k1 b, .int k2 d]) := by rw [h, k]
end Go.Proofs.YtilkpjcbmllgmaaGreatDoor

namespace Go.Proofs.YtilkpjcbmllgmaaGreatDoor
set_option linter.unusedVariables false
set_option linter.unusedSimpArgs false
open Go Go.RowKit

/-- Is the atom number i true in the world j? -/
def wI (i j : Nat) : Bool := j.testBit i
theorem or_one (S : BitVec 64) (k : Nat) (hk : k < 64) : bits .or .u64 (S.toNat : Int) (IntKind.u64.wrap (2 ^ k)) = ((S ||| BitVec.twoPow 64 k).toNat : Int) := by
  have e : IntKind.u64.wrap (2 ^ k) = ((BitVec.twoPow 64 k).toNat : Int) := by
    rw [BitVec.toNat_twoPow, IntKind.wrap_u64]
    simp
  rw [e, bits_or_bv]
theorem tstF0 : ∀ k : Fin 64, (bits BinOp.and IntKind.i64 (k.val : Int) 1 == 1) = wI 0 k.val := by decide +kernel
theorem tst0 (k : Nat) (h : k < 64) : (bits BinOp.and IntKind.i64 (k : Int) 1 == 1) = wI 0 k := tstF0 ⟨k, h⟩
theorem tstF1 : ∀ k : Fin 64, (bits BinOp.and IntKind.i64 ((k.val : Int) / 2) 1 == 1) = wI 1 k.val := by decide +kernel
theorem tst1 (k : Nat) (h : k < 64) : (bits BinOp.and IntKind.i64 ((k : Int) / 2) 1 == 1) = wI 1 k := tstF1 ⟨k, h⟩
theorem tstF2 : ∀ k : Fin 64, (bits BinOp.and IntKind.i64 ((k.val : Int) / 4) 1 == 1) = wI 2 k.val := by decide +kernel
theorem tst2 (k : Nat) (h : k < 64) : (bits BinOp.and IntKind.i64 ((k : Int) / 4) 1 == 1) = wI 2 k := tstF2 ⟨k, h⟩
theorem tstF3 : ∀ k : Fin 64, (bits BinOp.and IntKind.i64 ((k.val : Int) / 8) 1 == 1) = wI 3 k.val := by decide +kernel
theorem tst3 (k : Nat) (h : k < 64) : (bits BinOp.and IntKind.i64 ((k : Int) / 8) 1 == 1) = wI 3 k := tstF3 ⟨k, h⟩
theorem tstF4 : ∀ k : Fin 64, (bits BinOp.and IntKind.i64 ((k.val : Int) / 16) 1 == 1) = wI 4 k.val := by decide +kernel
theorem tst4 (k : Nat) (h : k < 64) : (bits BinOp.and IntKind.i64 ((k : Int) / 16) 1 == 1) = wI 4 k := tstF4 ⟨k, h⟩
theorem tstF5 : ∀ k : Fin 64, (bits BinOp.and IntKind.i64 ((k.val : Int) / 32) 1 == 1) = wI 5 k.val := by decide +kernel
theorem tst5 (k : Nat) (h : k < 64) : (bits BinOp.and IntKind.i64 ((k : Int) / 32) 1 == 1) = wI 5 k := tstF5 ⟨k, h⟩
set_option maxRecDepth 100000 in
set_option maxHeartbeats 1000000 in
theorem where_any (i : Nat) (hi : i < 6) (w : World) : Calls Tryz.prog 77 #[.int .i64 (i : Int)] w fun e w' => e = .returned (bv (wset (wI i))) ∧ w = w' := by
  have h6 : i = 0 ∨ i = 1 ∨ i = 2 ∨ i = 3 ∨ i = 4 ∨ i = 5 := by omega
  rcases h6 with rfl | rfl | rfl | rfl | rfl | rfl
  · go_enter Tryz.func77, Tryz.ntmps77
    go_wp2
    go_loop [3, 5] (fun s i => ∃ k : Nat, k ≤ 64 ∧ i = .int .i64 k ∧ s = bv (wsetN (wI 0) k)) (fun _ i => 64 - (intOf i).toNat)
    case atStart => exact ⟨0, Nat.zero_le _, rfl, rfl⟩
    case round =>
      obtain ⟨k, hk, rfl, rfl⟩ := hrel
      by_cases hlt : k < 64
      · have ht := tst0 k hlt
        have HS := hidIt (wsetN_succ (wI 0) k)
        have hlt' : (k : Int) < 64 := by omega
        cases hb : wI 0 k
        · rw [hb] at ht HS
          have HE : Hid (wsetN (wI 0) (k + 1) = wsetN (wI 0) k) := HS.out
          clear hb HS
          generalize wsetN (wI 0) k = S at *
          go_wp2
          go_round
          case rel => exact ⟨k + 1, by omega, by go_num, by rw [HE.out]⟩
          case measure => simp [intOf]; omega
        · rw [hb] at ht HS
          have HE : Hid (wsetN (wI 0) (k + 1) = wsetN (wI 0) k ||| BitVec.twoPow 64 k) := HS.out
          clear hb HS
          generalize wsetN (wI 0) k = S at *
          go_wp2
          go_round
          case rel => exact ⟨k + 1, by omega, by go_num, by rw [HE.out, bv, or_one S k hlt]⟩
          case measure => simp [intOf]; omega
      · obtain rfl : k = 64 := by omega
        go_wp2
        go_ret
        exact ⟨rfl, rfl⟩
  · go_enter Tryz.func77, Tryz.ntmps77
    go_wp2
    go_loop [3, 5] (fun s i => ∃ k : Nat, k ≤ 64 ∧ i = .int .i64 k ∧ s = bv (wsetN (wI 1) k)) (fun _ i => 64 - (intOf i).toNat)
    case atStart => exact ⟨0, Nat.zero_le _, rfl, rfl⟩
    case round =>
      obtain ⟨k, hk, rfl, rfl⟩ := hrel
      by_cases hlt : k < 64
      · have ht := tst1 k hlt
        have HS := hidIt (wsetN_succ (wI 1) k)
        have hlt' : (k : Int) < 64 := by omega
        cases hb : wI 1 k
        · rw [hb] at ht HS
          have HE : Hid (wsetN (wI 1) (k + 1) = wsetN (wI 1) k) := HS.out
          clear hb HS
          generalize wsetN (wI 1) k = S at *
          go_wp2
          go_round
          case rel => exact ⟨k + 1, by omega, by go_num, by rw [HE.out]⟩
          case measure => simp [intOf]; omega
        · rw [hb] at ht HS
          have HE : Hid (wsetN (wI 1) (k + 1) = wsetN (wI 1) k ||| BitVec.twoPow 64 k) := HS.out
          clear hb HS
          generalize wsetN (wI 1) k = S at *
          go_wp2
          go_round
          case rel => exact ⟨k + 1, by omega, by go_num, by rw [HE.out, bv, or_one S k hlt]⟩
          case measure => simp [intOf]; omega
      · obtain rfl : k = 64 := by omega
        go_wp2
        go_ret
        exact ⟨rfl, rfl⟩
  · go_enter Tryz.func77, Tryz.ntmps77
    go_wp2
    go_loop [3, 5] (fun s i => ∃ k : Nat, k ≤ 64 ∧ i = .int .i64 k ∧ s = bv (wsetN (wI 2) k)) (fun _ i => 64 - (intOf i).toNat)
    case atStart => exact ⟨0, Nat.zero_le _, rfl, rfl⟩
    case round =>
      obtain ⟨k, hk, rfl, rfl⟩ := hrel
      by_cases hlt : k < 64
      · have ht := tst2 k hlt
        have HS := hidIt (wsetN_succ (wI 2) k)
        have hlt' : (k : Int) < 64 := by omega
        cases hb : wI 2 k
        · rw [hb] at ht HS
          have HE : Hid (wsetN (wI 2) (k + 1) = wsetN (wI 2) k) := HS.out
          clear hb HS
          generalize wsetN (wI 2) k = S at *
          go_wp2
          go_round
          case rel => exact ⟨k + 1, by omega, by go_num, by rw [HE.out]⟩
          case measure => simp [intOf]; omega
        · rw [hb] at ht HS
          have HE : Hid (wsetN (wI 2) (k + 1) = wsetN (wI 2) k ||| BitVec.twoPow 64 k) := HS.out
          clear hb HS
          generalize wsetN (wI 2) k = S at *
          go_wp2
          go_round
          case rel => exact ⟨k + 1, by omega, by go_num, by rw [HE.out, bv, or_one S k hlt]⟩
          case measure => simp [intOf]; omega
      · obtain rfl : k = 64 := by omega
        go_wp2
        go_ret
        exact ⟨rfl, rfl⟩
  · go_enter Tryz.func77, Tryz.ntmps77
    go_wp2
    go_loop [3, 5] (fun s i => ∃ k : Nat, k ≤ 64 ∧ i = .int .i64 k ∧ s = bv (wsetN (wI 3) k)) (fun _ i => 64 - (intOf i).toNat)
    case atStart => exact ⟨0, Nat.zero_le _, rfl, rfl⟩
    case round =>
      obtain ⟨k, hk, rfl, rfl⟩ := hrel
      by_cases hlt : k < 64
      · have ht := tst3 k hlt
        have HS := hidIt (wsetN_succ (wI 3) k)
        have hlt' : (k : Int) < 64 := by omega
        cases hb : wI 3 k
        · rw [hb] at ht HS
          have HE : Hid (wsetN (wI 3) (k + 1) = wsetN (wI 3) k) := HS.out
          clear hb HS
          generalize wsetN (wI 3) k = S at *
          go_wp2
          go_round
          case rel => exact ⟨k + 1, by omega, by go_num, by rw [HE.out]⟩
          case measure => simp [intOf]; omega
        · rw [hb] at ht HS
          have HE : Hid (wsetN (wI 3) (k + 1) = wsetN (wI 3) k ||| BitVec.twoPow 64 k) := HS.out
          clear hb HS
          generalize wsetN (wI 3) k = S at *
          go_wp2
          go_round
          case rel => exact ⟨k + 1, by omega, by go_num, by rw [HE.out, bv, or_one S k hlt]⟩
          case measure => simp [intOf]; omega
      · obtain rfl : k = 64 := by omega
        go_wp2
        go_ret
        exact ⟨rfl, rfl⟩
  · go_enter Tryz.func77, Tryz.ntmps77
    go_wp2
    go_loop [3, 5] (fun s i => ∃ k : Nat, k ≤ 64 ∧ i = .int .i64 k ∧ s = bv (wsetN (wI 4) k)) (fun _ i => 64 - (intOf i).toNat)
    case atStart => exact ⟨0, Nat.zero_le _, rfl, rfl⟩
    case round =>
      obtain ⟨k, hk, rfl, rfl⟩ := hrel
      by_cases hlt : k < 64
      · have ht := tst4 k hlt
        have HS := hidIt (wsetN_succ (wI 4) k)
        have hlt' : (k : Int) < 64 := by omega
        cases hb : wI 4 k
        · rw [hb] at ht HS
          have HE : Hid (wsetN (wI 4) (k + 1) = wsetN (wI 4) k) := HS.out
          clear hb HS
          generalize wsetN (wI 4) k = S at *
          go_wp2
          go_round
          case rel => exact ⟨k + 1, by omega, by go_num, by rw [HE.out]⟩
          case measure => simp [intOf]; omega
        · rw [hb] at ht HS
          have HE : Hid (wsetN (wI 4) (k + 1) = wsetN (wI 4) k ||| BitVec.twoPow 64 k) := HS.out
          clear hb HS
          generalize wsetN (wI 4) k = S at *
          go_wp2
          go_round
          case rel => exact ⟨k + 1, by omega, by go_num, by rw [HE.out, bv, or_one S k hlt]⟩
          case measure => simp [intOf]; omega
      · obtain rfl : k = 64 := by omega
        go_wp2
        go_ret
        exact ⟨rfl, rfl⟩
  · go_enter Tryz.func77, Tryz.ntmps77
    go_wp2
    go_loop [3, 5] (fun s i => ∃ k : Nat, k ≤ 64 ∧ i = .int .i64 k ∧ s = bv (wsetN (wI 5) k)) (fun _ i => 64 - (intOf i).toNat)
    case atStart => exact ⟨0, Nat.zero_le _, rfl, rfl⟩
    case round =>
      obtain ⟨k, hk, rfl, rfl⟩ := hrel
      by_cases hlt : k < 64
      · have ht := tst5 k hlt
        have HS := hidIt (wsetN_succ (wI 5) k)
        have hlt' : (k : Int) < 64 := by omega
        cases hb : wI 5 k
        · rw [hb] at ht HS
          have HE : Hid (wsetN (wI 5) (k + 1) = wsetN (wI 5) k) := HS.out
          clear hb HS
          generalize wsetN (wI 5) k = S at *
          go_wp2
          go_round
          case rel => exact ⟨k + 1, by omega, by go_num, by rw [HE.out]⟩
          case measure => simp [intOf]; omega
        · rw [hb] at ht HS
          have HE : Hid (wsetN (wI 5) (k + 1) = wsetN (wI 5) k ||| BitVec.twoPow 64 k) := HS.out
          clear hb HS
          generalize wsetN (wI 5) k = S at *
          go_wp2
          go_round
          case rel => exact ⟨k + 1, by omega, by go_num, by rw [HE.out, bv, or_one S k hlt]⟩
          case measure => simp [intOf]; omega
      · obtain rfl : k = 64 := by omega
        go_wp2
        go_ret
        exact ⟨rfl, rfl⟩
end Go.Proofs.YtilkpjcbmllgmaaGreatDoor

namespace Go.Proofs.YtilkpjcbmllgmaaGreatDoor
set_option linter.unusedVariables false
set_option linter.unusedSimpArgs false
open Go Go.RowKit

theorem idx_at {l : List ByteArray} {s : ByteArray} {k : Nat} (hk : k < l.length) (h1 : inB (l.take k) s = false) (h2 : l[k].data.toList = s.data.toList) : idxB l s = k := by
  unfold idxB
  rw [List.findIdx_eq hk]
  refine ⟨by simpa using h2, fun j hj => ?_⟩
  have h3 : ¬ inB (l.take k) s = true := by rw [h1]; simp
  rw [Bool.eq_false_iff]
  intro h4
  refine h3 ?_
  unfold inB
  rw [List.any_eq_true]
  refine ⟨l[j], ?_, h4⟩
  rw [List.mem_take_iff_getElem]
  exact ⟨j, by omega, rfl⟩

/-- What slices.Index answers. -/
def indexI (l : List ByteArray) (s : ByteArray) : Int := if inB l s then (idxB l s : Int) else -1

theorem ret_i64 {a b : Int} (h : a = b) : Ending.returned (.int .i64 a) = .returned (.int .i64 b) := by rw [h]

set_option maxRecDepth 100000 in
set_option maxHeartbeats 1000000 in
theorem indexS_any (l : List ByteArray) (s : ByteArray) (a : Option Addr) (c : Nat) (hn : l.length ≤ 1000000) (w : World) {S : Nat → Prop} (h : StrsIn w S a l) :
    Calls Tryz.prog 76 #[.slice a l.length c, .string s] w fun e w' => e = .returned (.int .i64 (indexI l s)) ∧ w = w' := by
  have H := hidIt h
  clear h
  go_enter Tryz.func76, Tryz.ntmps76
  go_wp2_with fail
  go_loop [8] (fun i => ∃ k : Nat, k ≤ l.length ∧ i = .int .i64 k ∧ Hid (inB (l.take k) s = false)) (fun i => l.length - (intOf i).toNat)
  case atStart => exact ⟨0, Nat.zero_le _, rfl, by show _ = _; simp [inB]⟩
  case round =>
    obtain ⟨k, hk, rfl, hno⟩ := hrel
    by_cases hlt : k < l.length
    · obtain ⟨b, off, rfl, c0, hsz⟩ := H.out.at k hlt
      have HIDX := hidIt (fun e => idx_at (s := s) hlt hno.out e)
      have HST := hidIt (inB_take l k hlt s)
      have HM : Hid (l[k] ∈ l) := List.getElem_mem hlt
      have hlt' : (k : Int) < (l.length : Int) := by omega
      generalize l[k] = x at *
      cases he : (s.toList == x.toList)
      · have HN : Hid (inB (l.take (k + 1)) s = false) := by
          show _ = _
          rw [HST.out, hno.out, Bool.false_or, inB_one, ← Lib.toList_data, ← Lib.toList_data]
          rw [beq_eq_false_iff_ne] at he ⊢
          exact fun e => he e.symm
        clear HIDX HST hno
        go_wp2_with fail
        go_round
        case rel => exact ⟨k + 1, by omega, by go_num, HN⟩
        case measure => simp [intOf]; omega
      · have hxs : x.data.toList = s.data.toList := by
          have h1 := eq_of_beq he
          rw [Lib.toList_data, Lib.toList_data] at h1
          exact h1.symm
        have HI : Hid (indexI l s = (k : Int)) := by
          show _ = _
          unfold indexI
          rw [if_pos (inB_mem.2 (by rw [← bytes_inj hxs]; exact HM.out)), HIDX.out hxs]
        clear HIDX HST hno hxs HM
        go_wp2_with fail
        go_ret
        exact ⟨ret_i64 HI.out.symm, rfl⟩
    · obtain rfl : k = l.length := by omega
      have HI : Hid (indexI l s = -1) := by
        show _ = _
        have := hno.out
        rw [List.take_length] at this
        unfold indexI
        rw [this]
        rfl
      clear hno
      go_wp2_with fail
      go_ret
      exact ⟨ret_i64 HI.out.symm, rfl⟩

theorem indexI_nonneg (l : List ByteArray) (s : ByteArray) : (decide (indexI l s ≥ 0)) = inB l s := by
  unfold indexI
  cases h : inB l s
  · simp
  · simp

set_option maxHeartbeats 400000 in
theorem containsS_any (l : List ByteArray) (s : ByteArray) (a : Option Addr) (c : Nat) (hn : l.length ≤ 1000000) (w : World) {S : Nat → Prop} (h : StrsIn w S a l) :
    Calls Tryz.prog 80 #[.slice a l.length c, .string s] w fun e w' => e = .returned (.bool (inB l s)) ∧ w = w' := by
  have H := hidIt h
  have HI := hidIt (indexI_nonneg l s)
  clear h
  go_enter Tryz.func80, Tryz.ntmps80
  go_wp2_with fail
  refine (indexS_any l s a c hn w H.out).mono ?_
  rintro e w' ⟨rfl, rfl⟩
  generalize indexI l s = i at *
  go_wp2_with fail
  go_ret
  exact ⟨ret_bool HI.out, rfl⟩

/-- The set of all worlds of n atoms. -/
def allS (n : Nat) : BitVec 64 := wset fun j => decide (j < 2 ^ n)

theorem allF : ∀ n : Fin 7, (allS n.val).toNat = 2 ^ (2 ^ n.val) - 1 := by decide +kernel
theorem all_any (n : Nat) (hn : n ≤ 6) (w : World) : Calls Tryz.prog 71 #[.int .i64 (n : Int)] w fun e w' => e = .returned (bv (allS n)) ∧ w = w' := by
  have HA : Hid (bv (allS n) = .int .u64 ((2 ^ (2 ^ n) - 1 : Nat) : Int)) := by
    show _ = _
    rw [bv, allF ⟨n, by omega⟩]
  generalize bv (allS n) = v at *
  have h7 : n = 0 ∨ n = 1 ∨ n = 2 ∨ n = 3 ∨ n = 4 ∨ n = 5 ∨ n = 6 := by omega
  rcases h7 with rfl | rfl | rfl | rfl | rfl | rfl | rfl
  all_goals
    go_enter Tryz.func71, Tryz.ntmps71
    go_wp2
    go_ret
    exact ⟨by rw [HA.out]; rfl, rfl⟩
end Go.Proofs.YtilkpjcbmllgmaaGreatDoor

namespace Go.Proofs.YtilkpjcbmllgmaaGreatDoor
set_option linter.unusedVariables false
set_option linter.unusedSimpArgs false
open Go Go.RowKit

/-- Are the first k names names, and ascending? -/
def vocUpto (l : List ByteArray) : Nat → Bool
  | 0 => true
  | k + 1 => vocUpto l k && (vn (l.getD k ⟨#[]⟩) && (k == 0 || Op.bytesLess (l.getD (k - 1) ⟨#[]⟩).toList (l.getD k ⟨#[]⟩).toList))
/-- Is the list a vocabulary? -/
def vocB (l : List ByteArray) : Bool := decide (l.length ≤ 6) && vocUpto l l.length

theorem vocUpto_false (l : List ByteArray) (k n : Nat) (h : k ≤ n) (hk : vocUpto l k = false) : vocUpto l n = false := by
  induction n with
  | zero => obtain rfl : k = 0 := by omega
            exact hk
  | succ n ih =>
    by_cases e : k = n + 1
    · rw [← e]; exact hk
    · simp [vocUpto, ih (by omega)]

set_option maxRecDepth 100000 in
set_option maxHeartbeats 1000000 in
theorem wvalid_any (l : List ByteArray) (a : Option Addr) (c : Nat) (hn : l.length ≤ 1000000) (w : World) {S : Nat → Prop} (h : StrsIn w S a l) :
    Calls Tryz.prog 26 #[.slice a l.length c] w fun e w' => e = .returned (.bool (vocB l)) ∧ w = w' := by
  have H := hidIt h
  clear h
  by_cases h6 : 6 < l.length
  · have HV : Hid (vocB l = false) := by show _ = _; unfold vocB; rw [decide_eq_false (by omega), Bool.false_and]
    have h6' : (6 : Int) < (l.length : Int) := by omega
    go_enter Tryz.func26, Tryz.ntmps26
    go_wp2_with fail
    go_ret
    exact ⟨ret_bool HV.out.symm, rfl⟩
  have HV : Hid (vocB l = vocUpto l l.length) := by show _ = _; unfold vocB; rw [decide_eq_true (by omega), Bool.true_and]
  have h6' : (l.length : Int) ≤ 6 := by omega
  go_enter Tryz.func26, Tryz.ntmps26
  go_wp2_with fail
  go_loop [10] (fun i => ∃ k : Nat, k ≤ l.length ∧ i = .int .i64 k ∧ Hid (vocUpto l k = true)) (fun i => l.length - (intOf i).toNat)
  case atStart => exact ⟨0, Nat.zero_le _, rfl, rfl⟩
  case round =>
    obtain ⟨k, hk, rfl, hok⟩ := hrel
    by_cases hlt : k < l.length
    · obtain ⟨b, off, rfl, c0, hsz⟩ := H.out.at k hlt
      have hlt' : (k : Int) < (l.length : Int) := by omega
      have HST : Hid (vocUpto l (k + 1) = (vn l[k] && (k == 0 || Op.bytesLess (l.getD (k - 1) ⟨#[]⟩).toList l[k].toList))) := by
        show _ = _
        rw [vocUpto, hok.out, Bool.true_and, List.getD_eq_getElem?_getD (i := k), List.getElem?_eq_getElem hlt, Option.getD_some]
      have HFALSE := hidIt (fun e => vocUpto_false l (k + 1) l.length (by omega) e)
      by_cases hv : vn l[k] = true
      · by_cases hk0 : k = 0
        · subst hk0
          have HT : Hid (vocUpto l (0 + 1) = true) := by show _ = _; rw [HST.out, hv]; rfl
          clear HST HFALSE
          generalize l[0] = x at *
          have HV1 := hidIt hv
          rw [Nat.add_zero] at c0
          clear hv
          go_wp2_with fail
          refine (validName_any x _ hsz).mono ?_
          rintro e w' ⟨rfl, rfl⟩
          rw [HV1.out]
          go_wp2_with fail
          go_round
          case rel => exact ⟨1, by omega, rfl, HT⟩
          case measure => simp [intOf]; omega
        · obtain ⟨j, rfl⟩ : ∃ j, k = j + 1 := ⟨k - 1, by omega⟩
          obtain ⟨b', off', e', d0, hsz'⟩ := H.out.at j (by omega)
          obtain ⟨rfl, rfl⟩ : b' = b ∧ off' = off := by
            injection e' with e2
            injection e2 with e3 e4
            exact ⟨e3.symm, e4.symm⟩
          have HG : Hid (l.getD (j + 1 - 1) ⟨#[]⟩ = l[j]) := by show _ = _; rw [List.getD_eq_getElem?_getD, Nat.add_sub_cancel, List.getElem?_eq_getElem (by omega), Option.getD_some]
          rw [HG.out, hv] at HST
          have hj0 : (0 : Int) ≤ (j : Int) := by omega
          have hjl : (j : Int) < (l.length : Int) := by omega
          generalize l[j + 1] = x at *
          have hlj : j < l.length := by omega
          generalize l[j] = y at *
          have HV1 := hidIt hv
          clear hv e' HG
          cases hlb : Op.bytesLess y.toList x.toList
          · have HT : Hid (vocB l = false) := by show _ = _; rw [HV.out]; exact HFALSE.out (by rw [HST.out, hlb]; rfl)
            clear HST HFALSE
            go_wp2_with fail
            refine (validName_any x _ hsz).mono ?_
            rintro e w' ⟨rfl, rfl⟩
            rw [HV1.out]
            go_wp2_with fail
            go_ret
            exact ⟨ret_bool HT.out.symm, rfl⟩
          · have HT : Hid (vocUpto l (j + 1 + 1) = true) := by show _ = _; rw [HST.out, hlb]; simp
            clear HST HFALSE
            go_wp2_with fail
            refine (validName_any x _ hsz).mono ?_
            rintro e w' ⟨rfl, rfl⟩
            rw [HV1.out]
            go_wp2_with fail
            go_round
            case rel => exact ⟨j + 1 + 1, by omega, by go_num, HT⟩
            case measure => simp [intOf]; omega
      · have hv' : vn l[k] = false := by simpa using hv
        have HT : Hid (vocB l = false) := by show _ = _; rw [HV.out]; exact HFALSE.out (by rw [HST.out, hv']; rfl)
        clear HST HFALSE hv
        generalize l[k] = x at *
        have HV1 := hidIt hv'
        clear hv'
        go_wp2_with fail
        refine (validName_any x _ hsz).mono ?_
        rintro e w' ⟨rfl, rfl⟩
        rw [HV1.out]
        go_wp2_with fail
        go_ret
        exact ⟨ret_bool HT.out.symm, rfl⟩
    · obtain rfl : k = l.length := by omega
      have HT : Hid (vocB l = true) := by show _ = _; rw [HV.out]; exact hok.out
      go_wp2_with fail
      go_ret
      exact ⟨ret_bool HT.out.symm, rfl⟩

set_option maxHeartbeats 400000 in
/-- All, at a vocabulary. -/
theorem wAll_any (l : List ByteArray) (hv : vocB l = true) (a : Option Addr) (c : Nat) (hn : l.length ≤ 6) (w : World) {S : Nat → Prop} (h : StrsIn w S a l) :
    Calls Tryz.prog 28 #[.slice a l.length c] w fun e w' => e = .returned (bv (allS l.length)) ∧ w = w' := by
  have H := hidIt h
  have HV := hidIt hv
  clear h hv
  go_enter Tryz.func28, Tryz.ntmps28
  go_wp2_with fail
  refine (wvalid_any l a c (by omega) w H.out).mono ?_
  rintro e w' ⟨rfl, rfl⟩
  rw [HV.out]
  go_wp2_with fail
  refine (all_any l.length hn w).mono ?_
  rintro e w' ⟨rfl, rfl⟩
  go_wp2_with fail
  go_ret
  exact ⟨rfl, rfl⟩
end Go.Proofs.YtilkpjcbmllgmaaGreatDoor

namespace Go.Proofs.YtilkpjcbmllgmaaGreatDoor
set_option linter.unusedVariables false
set_option linter.unusedSimpArgs false
open Go Go.RowKit

/-- The worlds, of six atoms, in which a formula is true. -/
def modelsV (voc : List ByteArray) (t : Tree) : BitVec 64 := wset fun j => valueB (atomAt voc j) t

theorem modelsV_bit (voc : List ByteArray) (t : Tree) (j : Nat) (h : j < 64) : (modelsV voc t).getLsbD j = valueB (atomAt voc j) t := wset_bit _ j h

theorem mv1 (voc : List ByteArray) (nm : ByteArray) (ts : List Tree) : modelsV voc (.node 1 nm ts) = BitVec.allOnes 64 := set_ext fun j hj => by
  rw [modelsV_bit _ _ j hj, BitVec.getLsbD_allOnes]
  simp [valueB, hj]
theorem mv2 (voc : List ByteArray) (nm : ByteArray) (ts : List Tree) : modelsV voc (.node 2 nm ts) = 0#64 := set_ext fun j hj => by
  rw [modelsV_bit _ _ j hj]
  simp [valueB]
theorem mv3 (voc : List ByteArray) (nm : ByteArray) (ts : List Tree) : modelsV voc (.node 3 nm ts) = wset (wI (idxB voc nm)) := set_ext fun j hj => by
  rw [modelsV_bit _ _ j hj, wset_bit _ j hj]
  simp [valueB, atomAt, wI]
theorem mv4 (voc : List ByteArray) (nm : ByteArray) (t : Tree) : modelsV voc (.node 4 nm [t]) = ~~~(modelsV voc t) := set_ext fun j hj => by
  rw [modelsV_bit _ _ j hj, BitVec.getLsbD_not, modelsV_bit _ _ j hj]
  simp [valueB, valuesB, hj]
theorem mv7 (voc : List ByteArray) (nm : ByteArray) (t u : Tree) : modelsV voc (.node 7 nm [t, u]) = ~~~(modelsV voc t) ||| modelsV voc u := set_ext fun j hj => by
  rw [modelsV_bit _ _ j hj, BitVec.getLsbD_or, BitVec.getLsbD_not, modelsV_bit _ _ j hj, modelsV_bit _ _ j hj]
  simp [valueB, valuesB, hj]
theorem mv8 (voc : List ByteArray) (nm : ByteArray) (t u : Tree) : modelsV voc (.node 8 nm [t, u]) = ~~~(modelsV voc t ^^^ modelsV voc u) := set_ext fun j hj => by
  rw [modelsV_bit _ _ j hj, BitVec.getLsbD_not, BitVec.getLsbD_xor, modelsV_bit _ _ j hj, modelsV_bit _ _ j hj]
  simp only [valueB, valuesB]
  cases valueB (atomAt voc j) t <;> cases valueB (atomAt voc j) u <;> simp [hj]

/-- The worlds in which the first k arguments are true; in which one of them is. -/
def andV (voc : List ByteArray) (ts : List Tree) (k : Nat) : BitVec 64 := wset fun j => (ts.take k).all (valueB (atomAt voc j))
def orV (voc : List ByteArray) (ts : List Tree) (k : Nat) : BitVec 64 := wset fun j => (ts.take k).any (valueB (atomAt voc j))
theorem andV_zero (voc : List ByteArray) (ts : List Tree) : andV voc ts 0 = BitVec.allOnes 64 := set_ext fun j hj => by
  rw [andV, wset_bit _ j hj, BitVec.getLsbD_allOnes]
  simp [hj]
theorem orV_zero (voc : List ByteArray) (ts : List Tree) : orV voc ts 0 = 0#64 := set_ext fun j hj => by
  rw [orV, wset_bit _ j hj]
  simp
theorem andV_succ (voc : List ByteArray) (ts : List Tree) (k : Nat) (h : k < ts.length) : andV voc ts (k + 1) = andV voc ts k &&& modelsV voc ts[k] := set_ext fun j hj => by
  rw [andV, wset_bit _ j hj, BitVec.getLsbD_and, andV, wset_bit _ j hj, modelsV_bit _ _ j hj, take_snoc' ts k h, List.all_append]
  simp
theorem orV_succ (voc : List ByteArray) (ts : List Tree) (k : Nat) (h : k < ts.length) : orV voc ts (k + 1) = orV voc ts k ||| modelsV voc ts[k] := set_ext fun j hj => by
  rw [orV, wset_bit _ j hj, BitVec.getLsbD_or, orV, wset_bit _ j hj, modelsV_bit _ _ j hj, take_snoc' ts k h, List.any_append]
  simp
theorem mv5 (voc : List ByteArray) (nm : ByteArray) (ts : List Tree) : modelsV voc (.node 5 nm ts) = andV voc ts ts.length := set_ext fun j hj => by
  rw [modelsV_bit _ _ j hj, andV, wset_bit _ j hj, List.take_length]
  simp [valueB, valuesB_map, List.all_map]
theorem mv6 (voc : List ByteArray) (nm : ByteArray) (ts : List Tree) : modelsV voc (.node 6 nm ts) = orV voc ts ts.length := set_ext fun j hj => by
  rw [modelsV_bit _ _ j hj, orV, wset_bit _ j hj, List.take_length]
  simp [valueB, valuesB_map, List.any_map]

theorem bits_not_bv (S : BitVec 64) : bits .xor .u64 IntKind.u64.max (S.toNat : Int) = ((~~~S).toNat : Int) := by
  have e : IntKind.u64.max = ((BitVec.allOnes 64).toNat : Int) := by decide
  rw [e, bits_xor_bv, BitVec.allOnes_xor]
theorem sgnU : IntKind.u64.signed = false := rfl

theorem ret_u64 {a b : Int} (h : a = b) : Ending.returned (.int .u64 a) = .returned (.int .u64 b) := by rw [h]

def ModelsOk (voc : List ByteArray) (va : Option Addr) (vc : Nat) (t : Tree) : Prop := ∀ (v : Value) (w : World), FormAt w none v t → StrsIn w (fun _ => True) va voc →
  Calls Tryz.prog 81 #[.slice va voc.length vc, v] w fun e w' => e = .returned (bv (modelsV voc t)) ∧ Below w.heap.size w w'

set_option maxRecDepth 100000 in
set_option maxHeartbeats 2000000 in
theorem models_any (voc : List ByteArray) (hvl : voc.length ≤ 6) (va : Option Addr) (vc : Nat) : ∀ t : Tree, t.all kindB = true → (∀ s, (3, s, 0) ∈ keysT t → inB voc s = true) → ModelsOk voc va vc t := by
  refine Tree.ind fun op name ts ih hk hin v w hv hs => ?_
  obtain ⟨k1, k2⟩ := all_self hk
  have hargs := kindB_args k1
  have IH : ∀ t ∈ ts, ModelsOk voc va vc t := fun t ht => ih t ht (allL_mem k2 t ht) (fun s hs => hin s (by rw [keysT]; exact List.mem_cons_of_mem _ (keysL_mem ht _ hs)))
  obtain ⟨a, cap, b, off, rfl, hop, hname, hlen', hcap, -, -⟩ := hv.form
  have HFS := hidIt hv.forms
  simp only [Tree.op_node, Tree.name_node, Tree.args_node] at *
  have hop8 : op = 1 ∨ op = 2 ∨ op = 3 ∨ op = 4 ∨ op = 5 ∨ op = 6 ∨ op = 7 ∨ op = 8 := by
    unfold kindB at k1
    simp only [Tree.op_node] at k1
    grind
  have HIN : Hid (op = 3 → ts.length = 0 → inB voc name = true) := fun h3 h0 => hin name (by rw [keysT, h3, h0]; exact List.mem_cons_self)
  have HK3 : Hid (op = 3 → ts.length = 0) := fun h3 => by
    subst h3
    simp only [kindB, Tree.op_node, Tree.args_node] at k1
    simpa using k1
  have HS := hidIt hs
  clear ih hk hin k1 k2 hv hop hs
  obtain ⟨h4, h5, h7⟩ := hargs
  have IHH := hidIt IH
  unfold maxLen at hcap
  clear IH
  rcases hop8 with rfl | rfl | rfl | rfl | rfl | rfl | rfl | rfl
  · have HE := hidIt (mv1 voc name ts)
    clear h4 h5 h7
    go_enter Tryz.func81, Tryz.ntmps81
    go_wp2_with fail
    go_ret
    exact ⟨by rw [HE.out]; rfl, (Below.refl _ _).alloc (Nat.le_refl _) _⟩
  · have HE := hidIt (mv2 voc name ts)
    clear h4 h5 h7
    go_enter Tryz.func81, Tryz.ntmps81
    go_wp2_with fail
    go_ret
    exact ⟨by rw [HE.out]; rfl, (Below.refl _ _).alloc (Nat.le_refl _) _⟩
  · have HE := hidIt (mv3 voc name ts)
    have hidx : idxB voc name < voc.length := by
      unfold idxB
      rw [List.findIdx_lt_length]
      have := inB_mem.1 (HIN.out rfl (HK3.out rfl))
      exact ⟨name, this, by simp⟩
    have HI : Hid (indexI voc name = (idxB voc name : Int)) := by show _ = _; unfold indexI; rw [if_pos (HIN.out rfl (HK3.out rfl))]
    clear h4 h5 h7
    go_enter Tryz.func81, Tryz.ntmps81
    go_wp2_with fail
    refine (indexS_any voc name va vc (by omega) _ (HS.out.go ((Below.refl _ _).alloc (Nat.le_refl _) _))).mono ?_
    rintro e w' ⟨rfl, rfl⟩
    rw [HI.out]
    go_wp2_with fail
    refine (where_any (idxB voc name) (by omega) _).mono ?_
    rintro e w' ⟨rfl, rfl⟩
    rw [← HE.out]
    go_wp2_with fail
    go_ret
    exact ⟨rfl, (Below.refl _ _).alloc (Nat.le_refl _) _⟩
  · obtain ⟨t, rfl⟩ : ∃ t, ts = [t] := List.length_eq_one_iff.1 (h4 rfl)
    have HE := hidIt (mv4 voc name t)
    have ht := hidIt (IHH.out t (by simp))
    obtain ⟨b', off', a', c', rfl, c0, c1, c2, hf⟩ := HFS.out.at 0 (by simp)
    simp only [List.getElem_cons_zero] at c0 c1 c2 hf
    have HF := hidIt hf
    have hbl := World.block_lt_of_cell? w ⟨b', off' + 0 * 3, none⟩ c0
    simp only [Nat.zero_mul, Nat.add_zero, List.length_singleton] at c0 c1 c2 hbl hlen'
    have h01 : ([t] : List Tree).length = 1 := rfl
    rw [h01]
    clear hf h4 h5 h7
    go_enter Tryz.func81, Tryz.ntmps81
    go_wp2_with fail
    refine (ht.out _ _ (HF.out.go ((Below.refl _ _).alloc (Nat.le_refl _) _)) (HS.out.go ((Below.refl _ _).alloc (Nat.le_refl _) _))).mono ?_
    rintro e w' ⟨rfl, hb⟩
    have HB := hidIt (below_box hb)
    clear hb
    generalize modelsV voc t = S at *
    have hsgn := sgnU
    go_wp2_with fail
    go_ret
    exact ⟨ret_u64 (by rw [HE.out, bits_not_bv]), HB.out⟩
  · have HE := hidIt (mv5 voc name ts)
    have hlt7 : ts.length ≤ 6 := (h5 (by simp)).2
    have hone : 2 ≤ ts.length := (h5 (by simp)).1
    have HB0 : Hid (Below w.heap.size w (w.alloc (.cells #[.int .i64 5, .string name, .slice a ts.length cap] 24))) := (Below.refl _ _).alloc (Nat.le_refl _) _
    have HZ : Hid (andV voc ts 0 = BitVec.allOnes 64) := andV_zero voc ts
    clear h4 h5 h7
    go_enter Tryz.func81, Tryz.ntmps81
    go_wp2_with fail
    generalize (w.alloc (.cells #[.int .i64 5, .string name, .slice a ts.length cap] 24)) = W at *
    go_loopw [5, 31] (fun s i wr => ∃ k : Nat, k ≤ ts.length ∧ i = .int .i64 k ∧ s = bv (andV voc ts k) ∧ Hid (Below W.heap.size W wr)) (fun _ i _ => ts.length - (intOf i).toNat)
    case atStart => exact ⟨0, Nat.zero_le _, rfl, by rw [HZ.out]; rfl, Below.refl _ _⟩
    case round =>
      obtain ⟨k, hk, rfl, rfl, hbel⟩ := hrel
      have HBw := hidIt (HB0.out.trans (hbel.out.mono HB0.out.size))
      by_cases hlt : k < ts.length
      · obtain ⟨b', off', a', c', rfl, c0, c1, c2, hf⟩ := (HFS.out.go HBw.out).at k hlt
        have HF := hidIt hf
        have ht := hidIt (IHH.out ts[k] (List.getElem_mem hlt))
        have HST := hidIt (andV_succ voc ts k hlt)
        have hlt0 : (k : Int) < (ts.length : Int) := by omega
        clear hf
        generalize ts[k] = t at *
        go_wp2_with fail
        refine (ht.out _ _ (HF.out.go ((Below.refl _ _).alloc (Nat.le_refl _) _)) (HS.out.go (HBw.out.alloc HBw.out.size _))).mono ?_
        rintro e w' ⟨rfl, hb⟩
        have HB := hidIt (hbel.out.trans ((below_box hb).mono hbel.out.size))
        clear hb
        generalize andV voc ts k = A at *
        generalize modelsV voc t = S at *
        go_wp2_with fail
        go_roundw
        case rel => exact ⟨k + 1, by omega, by go_num, by rw [HST.out, bits_and_bv], HB⟩
        case measure => simp [intOf]; omega
      · obtain rfl : k = ts.length := by omega
        go_wp2_with fail
        go_ret
        exact ⟨ret_u64 (by rw [HE.out]), HBw.out⟩
  · have HE := hidIt (mv6 voc name ts)
    have hlt7 : ts.length ≤ 6 := (h5 (by simp)).2
    have hone : 2 ≤ ts.length := (h5 (by simp)).1
    have HB0 : Hid (Below w.heap.size w (w.alloc (.cells #[.int .i64 6, .string name, .slice a ts.length cap] 24))) := (Below.refl _ _).alloc (Nat.le_refl _) _
    have HZ : Hid (orV voc ts 0 = 0#64) := orV_zero voc ts
    clear h4 h5 h7
    go_enter Tryz.func81, Tryz.ntmps81
    go_wp2_with fail
    generalize (w.alloc (.cells #[.int .i64 6, .string name, .slice a ts.length cap] 24)) = W at *
    go_loopw [8, 47] (fun s i wr => ∃ k : Nat, k ≤ ts.length ∧ i = .int .i64 k ∧ s = bv (orV voc ts k) ∧ Hid (Below W.heap.size W wr)) (fun _ i _ => ts.length - (intOf i).toNat)
    case atStart => exact ⟨0, Nat.zero_le _, rfl, by rw [HZ.out]; rfl, Below.refl _ _⟩
    case round =>
      obtain ⟨k, hk, rfl, rfl, hbel⟩ := hrel
      have HBw := hidIt (HB0.out.trans (hbel.out.mono HB0.out.size))
      by_cases hlt : k < ts.length
      · obtain ⟨b', off', a', c', rfl, c0, c1, c2, hf⟩ := (HFS.out.go HBw.out).at k hlt
        have HF := hidIt hf
        have ht := hidIt (IHH.out ts[k] (List.getElem_mem hlt))
        have HST := hidIt (orV_succ voc ts k hlt)
        have hlt0 : (k : Int) < (ts.length : Int) := by omega
        clear hf
        generalize ts[k] = t at *
        go_wp2_with fail
        refine (ht.out _ _ (HF.out.go ((Below.refl _ _).alloc (Nat.le_refl _) _)) (HS.out.go (HBw.out.alloc HBw.out.size _))).mono ?_
        rintro e w' ⟨rfl, hb⟩
        have HB := hidIt (hbel.out.trans ((below_box hb).mono hbel.out.size))
        clear hb
        generalize orV voc ts k = A at *
        generalize modelsV voc t = S at *
        go_wp2_with fail
        go_roundw
        case rel => exact ⟨k + 1, by omega, by go_num, by rw [HST.out, bits_or_bv], HB⟩
        case measure => simp [intOf]; omega
      · obtain rfl : k = ts.length := by omega
        go_wp2_with fail
        go_ret
        exact ⟨ret_u64 (by rw [HE.out]), HBw.out⟩
  · obtain ⟨t, u, rfl⟩ : ∃ t u, ts = [t, u] := len_two (h7 (by simp))
    have HE := hidIt (mv7 voc name t u)
    have ht : Hid (∀ (v : Value) (w : World), FormAt w none v t → StrsIn w (fun _ => True) va voc → Calls Tryz.prog 81 #[.slice va voc.length vc, v] w fun e w' => e = .returned (bv (modelsV voc t)) ∧ Below w.heap.size w w') := IHH.out t (by simp)
    have hu : Hid (∀ (v : Value) (w : World), FormAt w none v u → StrsIn w (fun _ => True) va voc → Calls Tryz.prog 81 #[.slice va voc.length vc, v] w fun e w' => e = .returned (bv (modelsV voc u)) ∧ Below w.heap.size w w') := IHH.out u (by simp)
    clear IHH
    obtain ⟨b', off', a', c', rfl, c0, c1, c2, hf⟩ := HFS.out.at 0 (by simp)
    obtain ⟨b2, off2, a2, c2', e2, d0, d1, d2, hf2⟩ := HFS.out.at 1 (by simp)
    obtain ⟨rfl, rfl⟩ : b2 = b' ∧ off2 = off' := by
      injection e2 with e2
      injection e2 with e3 e4
      exact ⟨e3.symm, e4.symm⟩
    simp only [List.getElem_cons_zero, List.getElem_cons_succ] at c0 c1 c2 hf d0 d1 d2 hf2
    simp only [Nat.zero_mul, Nat.add_zero, Nat.one_mul] at c0 c1 c2 d0 d1 d2
    simp only [List.length_cons, List.length_nil] at hlen'
    have h01 : ([t, u] : List Tree).length = 2 := rfl
    rw [h01]
    have HBX : Hid (Below w.heap.size w (w.alloc (.cells #[.int .i64 7, .string name, .slice (some ⟨b2, off2, none⟩) 2 cap] 24))) := (Below.refl _ _).alloc (Nat.le_refl _) _
    have hbl := World.block_lt_of_cell? w ⟨b2, off2, none⟩ c0
    have k2 : (w.alloc (.cells #[.int .i64 7, .string name, .slice (some ⟨b2, off2, none⟩) 2 cap] 24)).cell? ⟨w.heap.size, 2, none⟩ = some (.slice (some ⟨b2, off2, none⟩) 2 cap) := (cell_of3 (heap_alloc_new w _)).2.2
    rw [← HBX.out.cell (p := ⟨b2, off2, none⟩) hbl] at c0
    rw [← HBX.out.cell (p := ⟨b2, off2 + 1, none⟩) hbl] at c1
    rw [← HBX.out.cell (p := ⟨b2, off2 + 2, none⟩) hbl] at c2
    rw [← HBX.out.cell (p := ⟨b2, off2 + 3, none⟩) hbl] at d0
    rw [← HBX.out.cell (p := ⟨b2, off2 + 3 + 1, none⟩) hbl] at d1
    rw [← HBX.out.cell (p := ⟨b2, off2 + 3 + 2, none⟩) hbl] at d2
    have HF := hidIt (hf.go HBX.out)
    have HF2 := hidIt (hf2.go HBX.out)
    have HSX := hidIt (HS.out.go HBX.out)
    have K0 := fun y => Ext.cell c0 y
    have K1 := fun y => Ext.cell c1 y
    have K2 := fun y => Ext.cell c2 y
    have L0 := fun y => Ext.cell d0 y
    have L1 := fun y => Ext.cell d1 y
    have L2 := fun y => Ext.cell d2 y
    have M2 := fun y => Ext.cell k2 y
    have hsgn := sgnU
    clear hf hf2 h4 h5 h7 c0 c1 c2 d0 d1 d2 k2 e2
    go_enter Tryz.func81, Tryz.ntmps81
    go_wp2_with fail
    generalize (w.alloc (.cells #[.int .i64 7, .string name, .slice (some ⟨b2, off2, none⟩) 2 cap] 24)) = W at *
    generalize modelsV voc t = S at *
    generalize modelsV voc u = T at *
    haveI := Ext.nonempty W
    refine wp_region_in (Ext W) (by kernel_rfl) (by kernel_rfl) (Ext.start W) ?_
    repeat (go_big_quiet_step (first
      | (with_reducible (refine Ext.call (ht.out _ _ (FormAt.go HF.out (In.h _)) (StrsIn.go HSX.out (In.h _)))))
      | (with_reducible (refine Ext.call (hu.out _ _ (FormAt.go HF2.out (In.h _)) (StrsIn.go HSX.out (In.h _)))))))
    refine wpQuiet_nil ?_
    rintro w5 ⟨⟨_, h5⟩, rfl⟩
    have HB5 : Hid (Below w.heap.size w w5) := HBX.out.trans (Below.mono h5 HBX.out.size)
    clear h5 K0 K1 K2 L0 L1 L2 M2
    go_wp2_with fail
    go_ret
    exact ⟨ret_u64 (by rw [HE.out, bits_not_bv, bits_or_bv]), HB5.out⟩
  · obtain ⟨t, u, rfl⟩ : ∃ t u, ts = [t, u] := len_two (h7 (by simp))
    have HE := hidIt (mv8 voc name t u)
    have ht : Hid (∀ (v : Value) (w : World), FormAt w none v t → StrsIn w (fun _ => True) va voc → Calls Tryz.prog 81 #[.slice va voc.length vc, v] w fun e w' => e = .returned (bv (modelsV voc t)) ∧ Below w.heap.size w w') := IHH.out t (by simp)
    have hu : Hid (∀ (v : Value) (w : World), FormAt w none v u → StrsIn w (fun _ => True) va voc → Calls Tryz.prog 81 #[.slice va voc.length vc, v] w fun e w' => e = .returned (bv (modelsV voc u)) ∧ Below w.heap.size w w') := IHH.out u (by simp)
    clear IHH
    obtain ⟨b', off', a', c', rfl, c0, c1, c2, hf⟩ := HFS.out.at 0 (by simp)
    obtain ⟨b2, off2, a2, c2', e2, d0, d1, d2, hf2⟩ := HFS.out.at 1 (by simp)
    obtain ⟨rfl, rfl⟩ : b2 = b' ∧ off2 = off' := by
      injection e2 with e2
      injection e2 with e3 e4
      exact ⟨e3.symm, e4.symm⟩
    simp only [List.getElem_cons_zero, List.getElem_cons_succ] at c0 c1 c2 hf d0 d1 d2 hf2
    simp only [Nat.zero_mul, Nat.add_zero, Nat.one_mul] at c0 c1 c2 d0 d1 d2
    simp only [List.length_cons, List.length_nil] at hlen'
    have h01 : ([t, u] : List Tree).length = 2 := rfl
    rw [h01]
    have HBX : Hid (Below w.heap.size w (w.alloc (.cells #[.int .i64 8, .string name, .slice (some ⟨b2, off2, none⟩) 2 cap] 24))) := (Below.refl _ _).alloc (Nat.le_refl _) _
    have hbl := World.block_lt_of_cell? w ⟨b2, off2, none⟩ c0
    have k2 : (w.alloc (.cells #[.int .i64 8, .string name, .slice (some ⟨b2, off2, none⟩) 2 cap] 24)).cell? ⟨w.heap.size, 2, none⟩ = some (.slice (some ⟨b2, off2, none⟩) 2 cap) := (cell_of3 (heap_alloc_new w _)).2.2
    rw [← HBX.out.cell (p := ⟨b2, off2, none⟩) hbl] at c0
    rw [← HBX.out.cell (p := ⟨b2, off2 + 1, none⟩) hbl] at c1
    rw [← HBX.out.cell (p := ⟨b2, off2 + 2, none⟩) hbl] at c2
    rw [← HBX.out.cell (p := ⟨b2, off2 + 3, none⟩) hbl] at d0
    rw [← HBX.out.cell (p := ⟨b2, off2 + 3 + 1, none⟩) hbl] at d1
    rw [← HBX.out.cell (p := ⟨b2, off2 + 3 + 2, none⟩) hbl] at d2
    have HF := hidIt (hf.go HBX.out)
    have HF2 := hidIt (hf2.go HBX.out)
    have HSX := hidIt (HS.out.go HBX.out)
    have K0 := fun y => Ext.cell c0 y
    have K1 := fun y => Ext.cell c1 y
    have K2 := fun y => Ext.cell c2 y
    have L0 := fun y => Ext.cell d0 y
    have L1 := fun y => Ext.cell d1 y
    have L2 := fun y => Ext.cell d2 y
    have M2 := fun y => Ext.cell k2 y
    have hsgn := sgnU
    clear hf hf2 h4 h5 h7 c0 c1 c2 d0 d1 d2 k2 e2
    go_enter Tryz.func81, Tryz.ntmps81
    go_wp2_with fail
    generalize (w.alloc (.cells #[.int .i64 8, .string name, .slice (some ⟨b2, off2, none⟩) 2 cap] 24)) = W at *
    generalize modelsV voc t = S at *
    generalize modelsV voc u = T at *
    haveI := Ext.nonempty W
    refine wp_region_in (Ext W) (by kernel_rfl) (by kernel_rfl) (Ext.start W) ?_
    repeat (go_big_quiet_step (first
      | (with_reducible (refine Ext.call (ht.out _ _ (FormAt.go HF.out (In.h _)) (StrsIn.go HSX.out (In.h _)))))
      | (with_reducible (refine Ext.call (hu.out _ _ (FormAt.go HF2.out (In.h _)) (StrsIn.go HSX.out (In.h _)))))))
    refine wpQuiet_nil ?_
    rintro w5 ⟨⟨_, h5⟩, rfl⟩
    have HB5 : Hid (Below w.heap.size w w5) := HBX.out.trans (Below.mono h5 HBX.out.size)
    clear h5 K0 K1 K2 L0 L1 L2 M2
    go_wp2_with fail
    go_ret
    exact ⟨ret_u64 (by rw [HE.out, bits_xor_bv, bits_not_bv]), HB5.out⟩
end Go.Proofs.YtilkpjcbmllgmaaGreatDoor

namespace Go.Proofs.YtilkpjcbmllgmaaGreatDoor
set_option linter.unusedVariables false
set_option linter.unusedSimpArgs false
open Go Go.RowKit

/-- Are all atoms in the vocabulary? -/
def overB (voc : List ByteArray) (t : Tree) : Bool := (atomsT t).all fun s => inB voc s
/-- What Models answers: the error, and the set. -/
def modE (voc : List ByteArray) (t : Tree) : Int := if vocB voc = true then (if valE t = 0 then (if overB voc t = true then 0 else 6) else valE t) else 1
def modS (voc : List ByteArray) (t : Tree) : BitVec 64 := if modE voc t = 0 then modelsV voc t &&& allS voc.length else 0#64

theorem modE_ok {voc : List ByteArray} {t : Tree} (h1 : vocB voc = true) (h2 : valE t = 0) (h3 : overB voc t = true) : modE voc t = 0 := by unfold modE; rw [if_pos h1, if_pos h2, if_pos h3]
theorem modS_ok {voc : List ByteArray} {t : Tree} (h : modE voc t = 0) : modS voc t = modelsV voc t &&& allS voc.length := by unfold modS; rw [if_pos h]
theorem modS_err {voc : List ByteArray} {t : Tree} (h : modE voc t ≠ 0) : modS voc t = 0#64 := by unfold modS; rw [if_neg h]

theorem over_mem {voc : List ByteArray} {t : Tree} (h : overB voc t = true) (s : ByteArray) (hs : (3, s, 0) ∈ keysT t) : inB voc s = true :=
  List.all_eq_true.1 h s ((mem_ascOf s _).2 (mem_atomKs.2 hs))

/-- Is each of the first k atoms in the vocabulary? -/
def overUpto (voc l : List ByteArray) (k : Nat) : Bool := (l.take k).all fun s => inB voc s
theorem overUpto_succ (voc l : List ByteArray) (k : Nat) (h : k < l.length) : overUpto voc l (k + 1) = (overUpto voc l k && inB voc l[k]) := by
  unfold overUpto
  rw [take_snoc' l k h, List.all_append]
  simp
theorem overUpto_false (voc l : List ByteArray) (k : Nat) (h : overUpto voc l k = false) : (l.all fun s => inB voc s) = false := by
  unfold overUpto at h
  rw [List.all_eq_false] at h ⊢
  obtain ⟨x, hx, hn⟩ := h
  exact ⟨x, List.mem_of_mem_take hx, hn⟩

set_option maxRecDepth 100000 in
set_option maxHeartbeats 2000000 in
theorem wModels_any (voc : List ByteArray) (va : Option Addr) (vc : Nat) (hvn : voc.length ≤ 1000000) (t : Tree) (v : Value) (w : World) (h : FormAt w none v t) (hs : StrsIn w (fun _ => True) va voc) :
    Calls Tryz.prog 39 #[.slice va voc.length vc, v] w fun e w' => e = .returned (.tuple #[bv (modS voc t), .int .i64 (modE voc t)]) ∧ Below w.heap.size w w' := by
  have HO := hidIt h
  obtain ⟨a, cap, b, off, rfl, hop, hname, hlen, hcap, -, -⟩ := h.form
  have HB0 : Hid (Below w.heap.size w (w.alloc (.cells #[.int .i64 t.op, .string t.name, .slice a t.args.length cap] 24))) := (Below.refl _ _).alloc (Nat.le_refl _) _
  have HX : Hid ((w.alloc (.cells #[.int .i64 t.op, .string t.name, .slice a t.args.length cap] 24)).heap[w.heap.size]? = some (.cells #[.int .i64 t.op, .string t.name, .slice a t.args.length cap] 24 (0, 0))) := heap_alloc_new w _
  have HF := hidIt (h.go HB0.out)
  have HS := hidIt (hs.go HB0.out)
  unfold maxLen at hcap
  clear h hs HO hop hname
  by_cases hvb : vocB voc = true
  · have hv6 : voc.length ≤ 6 := by
      unfold vocB at hvb
      rw [Bool.and_eq_true, decide_eq_true_eq] at hvb
      exact hvb.1
    by_cases hve : valE t = 0
    · obtain ⟨hnn, hdd, hkk, hnm⟩ := valE_zero hve
      have HVB := hidIt hvb
      have HVE := hidIt hve
      have HNN : Hid (t.nodes ≤ 1000000) := Nat.le_trans hnn (by decide)
      have HOV : Hid (overB voc t = true → ModelsOk voc va vc t) := fun h => models_any voc hv6 va vc t hkk (over_mem h)
      have HAL : Hid ((atomsT t).length ≤ 600) := by
        have h1 := ascOf_len (atomKs (keysT t))
        have h2 := atomKs_len (keysT t)
        rw [keysT_len] at h2
        show (ascOf (atomKs (keysT t))).length ≤ 600
        omega
      clear hvb hve hnn hdd hkk hnm
      go_enter Tryz.func39, Tryz.ntmps39
      go_wp2_with fail
      refine (wvalid_any voc va vc hvn _ HS.out).mono ?_
      rintro e w' ⟨rfl, rfl⟩
      rw [HVB.out]
      go_wp2_with fail
      refine (validate_any t _ _ HF.out).mono ?_
      rintro e w1 ⟨rfl, hb1⟩
      rw [HVE.out]
      have HB1 := hidIt (HB0.out.trans (hb1.mono HB0.out.size))
      have HX1 := hidIt (blk_kept HX.out hb1)
      have HF1 := hidIt (HF.out.go hb1)
      have HS1 := hidIt (HS.out.go hb1)
      obtain ⟨p0, p1, p2⟩ := cell_of3 HX1.out
      have hpl := lt_of_block HX1.out
      clear hb1 HX HF HS HB0
      go_wp2_with fail
      refine (atoms_any t HNN.out _ _ HF1.out).mono ?_
      rintro e w2 ⟨u, rfl, hown, hb2⟩
      obtain ⟨aa, ac, rfl, hal, hac, has⟩ := hown.form
      have HB2 := hidIt (HB1.out.trans (hb2.mono HB1.out.size))
      have HX2 := hidIt (blk_kept HX1.out hb2)
      have HF2 := hidIt (HF1.out.go hb2)
      have HS2 := hidIt (HS1.out.go hb2)
      have HA2 := hidIt (has.mono (S' := fun _ => True) fun _ _ _ => trivial)
      clear p0 p1 p2 hpl hb2 HX1 HF1 HS1 HB1 hown has
      obtain ⟨p0, p1, p2⟩ := cell_of3 HX2.out
      have hpl := lt_of_block HX2.out
      have hal6 := HAL.out
      unfold maxLen at hac
      have HOB : Hid (overB voc t = (atomsT t).all fun s => inB voc s) := rfl
      generalize atomsT t = al at *
      go_wp2_with fail
      go_loop [20] (fun i => ∃ k : Nat, k ≤ al.length ∧ i = .int .i64 k ∧ Hid (overUpto voc al k = true)) (fun i => al.length - (intOf i).toNat)
      case atStart => exact ⟨0, Nat.zero_le _, rfl, by show _ = _; simp [overUpto]⟩
      case round =>
        obtain ⟨k, hk, rfl, hok⟩ := hrel
        by_cases hlt : k < al.length
        · obtain ⟨b2, o2, rfl, c0, hsz⟩ := HA2.out.at k hlt
          have HST := hidIt (overUpto_succ voc al k hlt)
          have HFL := hidIt (overUpto_false voc al (k + 1))
          have hlt' : (k : Int) < (al.length : Int) := by omega
          generalize al[k] = s at *
          cases hin : inB voc s
          · have HE : Hid (modE voc t = 6) := by
              show _ = _
              unfold modE
              rw [if_pos HVB.out, if_pos HVE.out, HOB.out, HFL.out (by rw [HST.out, hin, Bool.and_false])]
              rfl
            have HZ : Hid (modS voc t = 0#64) := modS_err (by rw [HE.out]; decide)
            have HIN := hidIt hin
            clear hin HST HFL
            go_wp2_with fail
            refine (containsS_any voc s va vc hvn _ HS2.out).mono ?_
            rintro e w' ⟨rfl, rfl⟩
            rw [HIN.out]
            go_wp2_with fail
            go_ret2
            exact ⟨ret_pair (by rw [HZ.out]; rfl) HE.out.symm, HB2.out⟩
          · have HT : Hid (overUpto voc al (k + 1) = true) := by show _ = _; rw [HST.out, hok.out, hin]; rfl
            have HIN := hidIt hin
            clear hin HST HFL
            go_wp2_with fail
            refine (containsS_any voc s va vc hvn _ HS2.out).mono ?_
            rintro e w' ⟨rfl, rfl⟩
            rw [HIN.out]
            go_wp2_with fail
            go_round
            case rel => exact ⟨k + 1, by omega, by go_num, HT⟩
            case measure => simp [intOf]; omega
        · obtain rfl : k = al.length := by omega
          have hov : overB voc t = true := by
            rw [HOB.out]
            have := hok.out
            unfold overUpto at this
            rw [List.take_length] at this
            exact this
          have HE : Hid (modE voc t = 0) := modE_ok HVB.out HVE.out hov
          have HZ : Hid (modS voc t = modelsV voc t &&& allS voc.length) := modS_ok HE.out
          have HM := hidIt (HOV.out hov)
          have hv6' : (voc.length : Int) ≤ 6 := by omega
          clear hov hok
          go_wp2_with fail
          refine (HM.out _ _ HF2.out HS2.out).mono ?_
          rintro e w3 ⟨rfl, hb3⟩
          have HB3 := hidIt (HB2.out.trans (hb3.mono HB2.out.size))
          clear hb3
          generalize modelsV voc t = S at *
          go_wp2_with fail
          refine (all_any voc.length hv6 _).mono ?_
          rintro e w' ⟨rfl, rfl⟩
          generalize allS voc.length = T at *
          go_wp2_with fail
          go_ret2
          exact ⟨ret_pair (by rw [HZ.out, bits_and_bv]) HE.out.symm, HB3.out⟩
    · have HE : Hid (modE voc t = valE t) := by show _ = _; unfold modE; rw [if_pos hvb, if_neg hve]
      have HZ : Hid (modS voc t = 0#64) := modS_err (by rw [HE.out]; exact hve)
      have hz : (valE t == 0) = false := by simp [hve]
      have hz2 : (valE t != 0) = true := by simp [hve]
      have HVB := hidIt hvb
      clear hvb hve
      go_enter Tryz.func39, Tryz.ntmps39
      go_wp2_with fail
      refine (wvalid_any voc va vc hvn _ HS.out).mono ?_
      rintro e w' ⟨rfl, rfl⟩
      rw [HVB.out]
      go_wp2_with fail
      refine (validate_any t _ _ HF.out).mono ?_
      rintro e w1 ⟨rfl, hb1⟩
      have HB1 := hidIt (HB0.out.trans (hb1.mono HB0.out.size))
      clear hb1
      generalize valE t = ve at *
      go_wp2_with fail
      go_ret2
      exact ⟨ret_pair (by rw [HZ.out]; rfl) HE.out.symm, HB1.out⟩
  · have hvb' : vocB voc = false := by simpa using hvb
    have HE : Hid (modE voc t = 1) := by show _ = _; unfold modE; rw [if_neg hvb]
    have HZ : Hid (modS voc t = 0#64) := modS_err (by rw [HE.out]; decide)
    have HVB := hidIt hvb'
    clear hvb hvb'
    go_enter Tryz.func39, Tryz.ntmps39
    go_wp2_with fail
    refine (wvalid_any voc va vc hvn _ HS.out).mono ?_
    rintro e w' ⟨rfl, rfl⟩
    rw [HVB.out]
    go_wp2_with fail
    go_ret2
    exact ⟨ret_pair (by rw [HZ.out]; rfl) HE.out.symm, HB0.out⟩
end Go.Proofs.YtilkpjcbmllgmaaGreatDoor

namespace Go.Proofs.YtilkpjcbmllgmaaGreatDoor
set_option linter.unusedVariables false
set_option linter.unusedSimpArgs false
open Go Go.RowKit

/-- The operation made idle: it waits for what it waited for, and does nothing. -/
def idle (o : Oper) : Oper := { o with op := .move (.const (.bool true)) }
def idleLast : List Oper → List Oper
  | [] => []
  | o :: l => match l with
    | [] => [idle o]
    | _ :: _ => o :: idleLast l

theorem idleLast_len : ∀ l, (idleLast l).length = l.length
  | [] => rfl
  | [_] => rfl
  | o :: p :: l => by
    show (idleLast (p :: l)).length + 1 = _
    rw [idleLast_len (p :: l)]
    rfl
theorem idleLast_get : ∀ (l : List Oper) (j : Nat), (idleLast l)[j]? = if j + 1 = l.length then (l[j]?).map idle else l[j]?
  | [], j => by simp [idleLast]
  | [o], j => by
    cases j with
    | zero => rfl
    | succ j => simp [idleLast]
  | o :: p :: l, j => by
    cases j with
    | zero => simp [idleLast]
    | succ j =>
      show (idleLast (p :: l))[j]? = _
      rw [idleLast_get (p :: l) j]
      simp

/-- Each operation but the last is waited for by a later one; and none waits for a later one. -/
def lastB (ops : Array Oper) : Bool :=
  ((List.range (ops.size - 1)).all fun j => (List.range ops.size).any fun m => decide (j < m) && ((ops[m]?).map fun o => o.after.any fun e => Region.binds .any e && e.on == j).getD false) &&
  ((List.range ops.size).all fun m => ((ops[m]?).map fun o => o.after.all fun e => !Region.binds .any e || decide (e.on < m)).getD true)

def Closed (ops : Array Oper) (listed : Array Bool) : Prop := listed.size = ops.size ∧ ∀ (i : Nat) (o : Oper), ops[i]? = some o → listed.getD i false = true → ∀ e ∈ o.after, Region.binds .any e = true → listed.getD e.on false = true

theorem getD_false_true {listed : Array Bool} {j : Nat} (hj : j < listed.size) : listed.getD j true = listed.getD j false := by simp [hj]

theorem Closed.set {ops : Array Oper} {listed : Array Bool} (h : Closed ops listed) {i : Nat} (hi : i ∈ Region.ready .any ops listed) : Closed ops (listed.setIfInBounds i true) := by
  obtain ⟨hun, o, ho, hall⟩ := mem_ready.1 hi
  have up : ∀ j, listed.getD j false = true → (listed.setIfInBounds i true).getD j false = true := fun j hj => by
    by_cases e : i = j
    · subst e
      have : i < listed.size := by
        rcases Nat.lt_or_ge i listed.size with h' | h'
        · exact h'
        · simp [Array.getElem?_eq_none h'] at hun
      simp [this]
    · rw [getD_set_ne false e]
      exact hj
  refine ⟨by simpa using h.1, fun k ok hok hk e he hb => ?_⟩
  by_cases e' : i = k
  · subst e'
    rw [ho] at hok
    injection hok with hok
    subst hok
    exact up _ (hall e he hb)
  · rw [getD_set_ne false e'] at hk
    exact up _ (h.2 k ok hok hk e he hb)

theorem all_listed {ops : Array Oper} (hB : lastB ops = true) {listed : Array Bool} (h : Closed ops listed) (hr : ops.size - 1 ∈ Region.ready .any ops listed) : ∀ j, j + 1 < ops.size → listed.getD j false = true := by
  unfold lastB at hB
  rw [Bool.and_eq_true] at hB
  have h1 := List.all_eq_true.1 hB.1
  obtain ⟨hun, o, ho, hall⟩ := mem_ready.1 hr
  have key : ∀ d j, j + 1 + d = ops.size - 1 + 0 + 1 - 0 → j + 1 < ops.size → listed.getD j false = true := by
    intro d
    induction d using Nat.strongRecOn with
    | _ d ih =>
      intro j hd hj
      have h2 := h1 j (List.mem_range.2 (by omega))
      obtain ⟨m, hm, h3⟩ := List.any_eq_true.1 h2
      rw [List.mem_range] at hm
      rw [Bool.and_eq_true, decide_eq_true_eq] at h3
      obtain ⟨hjm, h4⟩ := h3
      cases ho' : ops[m]? with
      | none => rw [ho'] at h4; cases h4
      | some o' =>
        rw [ho'] at h4
        simp only [Option.map_some, Option.getD_some, Array.any_eq_true] at h4
        obtain ⟨q, hq, h5⟩ := h4
        rw [Bool.and_eq_true, beq_iff_eq] at h5
        have hmem := Array.getElem_mem hq
        by_cases e : m = ops.size - 1
        · subst e
          rw [ho] at ho'
          injection ho' with ho'
          subst ho'
          rw [← h5.2]
          exact hall _ hmem h5.1
        · have h6 := ih (ops.size - 1 + 1 - (m + 1)) (by omega) m (by omega) (by omega)
          rw [← h5.2]
          exact h.2 m o' ho' h6 _ hmem h5.1
  exact fun j hj => key (ops.size - 1 + 1 - (j + 1)) j (by omega) hj

theorem ready_nonempty {ops : Array Oper} (hB : lastB ops = true) {listed : Array Bool} (hs : listed.size = ops.size) {k : Nat} (hk : k < ops.size) (hun : listed.getD k true = false) : Region.ready .any ops listed ≠ [] := by
  unfold lastB at hB
  rw [Bool.and_eq_true] at hB
  have h1 := List.all_eq_true.1 hB.2
  have key : ∀ k, k < ops.size → listed.getD k true = false → ∃ m, m ∈ Region.ready .any ops listed := by
    intro k
    induction k using Nat.strongRecOn with
    | _ k ih =>
      intro hk hun
      by_cases hr : k ∈ Region.ready .any ops listed
      · exact ⟨k, hr⟩
      · have ho : ops[k]? = some ops[k] := Array.getElem?_eq_getElem hk
        have h2 : ¬ ∀ e ∈ ops[k].after, Region.binds .any e = true → listed.getD e.on false = true := fun hall => hr (mem_ready.2 ⟨hun, _, ho, hall⟩)
        simp only [Classical.not_forall] at h2
        obtain ⟨e, he, hb, hne⟩ := h2
        have h3 := h1 k (List.mem_range.2 hk)
        rw [ho] at h3
        simp only [Option.map_some, Option.getD_some] at h3
        have h4 := Array.all_eq_true_iff_forall_mem.1 h3 e he
        rw [hb] at h4
        have hlt : e.on < k := by simpa using h4
        exact ih e.on hlt (by omega) (by rw [getD_false_true (by omega)]; simpa using hne)
  obtain ⟨m, hm⟩ := key k hk hun
  intro h0
  rw [h0] at hm
  cases hm

/-- What is asked behind all operations but the last. -/
def lastQ (P : Program) (ops : Array Oper) (o : Oper) (Q : Exit → Act → World → Prop) : Exit → Act → World → Prop
  | .normal, a, w => wpList P ops Q [o] a w
  | e, a, w => Q e a w

theorem lets_last {P : Program} {ops : Array Oper} {o : Oper} {Q : Exit → Act → World → Prop} (h : LetsOut (lastQ P ops o Q)) : LetsOut Q := h

theorem wp_last {P : Program} {ops : Array Oper} {o p : Oper} {Q : Exit → Act → World → Prop} {a : Act} {w : World} {K K' : Act → World → Prop} (hK : ∀ a w, K a w → K' a w) (h : p.wp P a w K (lastQ P ops o Q)) : p.wp P a w K' Q := by
  unfold Oper.wp at *
  generalize (execOp a.eval p).run P w = x at *
  unfold Oper.upon at *
  split at h
  · exact hK _ _ h
  · exact hK _ _ h
  · exact hK _ _ h
  · refine h.mono fun e w' h' => ?_
    cases e with
    | returned v => exact hK _ _ h'
    | panicked c => exact h'
    | outgrown => exact h'
  · exact h.mono fun v w' h' => hK _ _ h'
  · exact h
  · exact h.elim

section
variable {P : Program} {l : List Oper} {o : Oper} {Q : Exit → Act → World → Prop}

theorem ready_idle (listed : Array Bool) : Region.ready .any (idleLast l).toArray listed = Region.ready .any l.toArray listed := by
  unfold Region.ready
  have e : (idleLast l).toArray.size = l.toArray.size := by simp [idleLast_len]
  rw [e]
  refine List.filter_congr fun i hi => ?_
  have : (((idleLast l).toArray)[i]?).map (·.after) = (l.toArray[i]?).map (·.after) := by
    simp only [List.getElem?_toArray, idleLast_get]
    split
    · cases l[i]? <;> rfl
    · rfl
  congr 1
  cases h1 : (idleLast l).toArray[i]? with
  | none =>
    rw [h1] at this
    cases h2 : l.toArray[i]? with
    | none => rfl
    | some x => rw [h2] at this; cases this
  | some y =>
    rw [h1] at this
    cases h2 : l.toArray[i]? with
    | none => rw [h2] at this; cases this
    | some x =>
      rw [h2] at this
      simp only [Option.map_some, Option.some.injEq] at this
      simp only [Option.map_some, Option.getD_some, this]

theorem dst_idle (i : Nat) : ((idleLast l).toArray[i]?).bind (fun o : Oper => o.dst) = (l.toArray[i]?).bind (fun o : Oper => o.dst) := by
  simp only [List.getElem?_toArray, idleLast_get]
  split
  · cases l[i]? <;> rfl
  · rfl
theorem yielded_idle (tmps : Array Value) : yielded (idleLast l).toArray tmps = yielded l.toArray tmps := by
  funext i
  unfold yielded
  rw [dst_idle (l := l) i]

theorem wpAny_last (hB : lastB l.toArray = true) (hl : l.getLast? = some o) (hd : o.dst = none) : ∀ (n : Nat) (listed : Array Bool) (a : Act) (w : World), Closed l.toArray listed → listed.getD (l.length - 1) true = false →
    wpAny P .any (idleLast l).toArray (lastQ P l.toArray o Q) n listed a w → wpAny P .any l.toArray Q n listed a w
  | 0, listed, a, w, hc, hun, h => by
    have hne : 0 < l.length := by
      cases l with
      | nil => simp at hl
      | cons x r => simp
    have h1 := h.1
    rw [ready_idle] at h1
    exact absurd h1 (ready_nonempty hB hc.1 (k := l.length - 1) (by simp; omega) hun)
  | n + 1, listed, a, w, hc, hun, h => by
    have hne : 0 < l.length := by
      cases l with
      | nil => simp at hl
      | cons x r => simp
    refine ⟨fun h0 => absurd h0 (ready_nonempty hB hc.1 (k := l.length - 1) (by simp; omega) hun), fun i hi => ?_⟩
    have h2 := h.2 i (by rw [ready_idle]; exact hi)
    have hlast : l[l.length - 1]? = some o := by rw [← List.getLast?_eq_getElem?]; exact hl
    by_cases hil : i = l.length - 1
    · subst hil
      -- the last operation: nothing is ready behind it
      have hsz : l.toArray.size - 1 = l.length - 1 := by simp
      have hall := all_listed hB hc (by rw [hsz]; exact hi)
      have hend : Region.ready .any l.toArray (listed.setIfInBounds (l.length - 1) true) = [] := by
        rw [List.eq_nil_iff_forall_not_mem]
        intro j hj
        obtain ⟨hjun, oj, hoj, -⟩ := mem_ready.1 hj
        have hjs : j < l.toArray.size := (Array.getElem?_eq_some_iff.1 hoj).1
        have hls : listed.size = l.toArray.size := hc.1
        by_cases e : l.length - 1 = j
        · subst e
          have : l.length - 1 < listed.size := by omega
          simp [this] at hjun
        · rw [getD_set_ne true e, getD_false_true (by omega), hall j (by simp at hjs ⊢; omega)] at hjun
          cases hjun
      have fin : ∀ (m : Nat) (a' : Act) (w' : World), Q .normal a' w' → wpAny P .any l.toArray Q m (listed.setIfInBounds (l.length - 1) true) a' w' := fun m a' w' hq => by
        cases m with
        | zero => exact ⟨hend, hq⟩
        | succ m => exact ⟨fun _ => hq, fun j hj => by rw [hend] at hj; cases hj⟩
      have unfin : wpAny P .any (idleLast l).toArray (lastQ P l.toArray o Q) n (listed.setIfInBounds (l.length - 1) true) a w → wpList P l.toArray Q [o] a w := fun hh => by
        cases n with
        | zero => exact hh.2
        | succ m => exact hh.1 (by rw [ready_idle]; exact hend)
      have hidle : (idleLast l).toArray[l.length - 1]? = some (idle o) := by
        rw [List.getElem?_toArray, idleLast_get, if_pos (by omega), hlast]
        rfl
      have hgo : wpList P l.toArray Q [o] a w := by
        refine unfin ?_
        unfold wpOp at h2
        rw [hidle] at h2
        simp only at h2
        have hput : ∀ v, a.put (idle o).dst v = a := fun v => by
          show a.put o.dst v = a
          rw [hd]
          rfl
        split at h2
        · rcases h2 with h3 | ⟨h3, -⟩
          · have h4 : wpAny P .any (idleLast l).toArray (lastQ P l.toArray o Q) n (listed.setIfInBounds (l.length - 1) true) (a.put (idle o).dst (.bool true)) w := h3
            rw [hput] at h4
            exact h4
          · exact absurd h3 (by
              intro h5
              have : (execOp a.eval (idle o)).run P w = .ok (.value (.bool true)) w := rfl
              unfold Oper.asks at h5
              have h6 : (Sem.runT P (execOp a.eval (idle o)) w #[]).snd = #[] := rfl
              rw [h6] at h5
              exact absurd h5.1 (by simp))
        · rw [hput] at h2
          exact h2
      unfold wpOp
      rw [List.getElem?_toArray, hlast]
      simp only
      unfold wpList at hgo
      split at hgo
      · rename_i hw
        rw [if_pos hw]
        rcases hgo with h3 | h3
        · exact .inl (Oper.wp_mono (fun a' w' hq => fin n a' w' hq) h3)
        · exact .inr h3
      · rename_i hw
        rw [if_neg hw]
        exact fin n _ _ hgo
    · have hgeti : (idleLast l).toArray[i]? = l.toArray[i]? := by
        rw [List.getElem?_toArray, idleLast_get, if_neg (by omega), List.getElem?_toArray]
      have hrec : ∀ a' w', wpAny P .any (idleLast l).toArray (lastQ P l.toArray o Q) n (listed.setIfInBounds i true) a' w' → wpAny P .any l.toArray Q n (listed.setIfInBounds i true) a' w' :=
        fun a' w' hh => wpAny_last hB hl hd n _ a' w' (hc.set hi) (by rw [getD_set_ne true hil]; exact hun) hh
      unfold wpOp at h2 ⊢
      rw [hgeti, yielded_idle] at h2
      cases ho : l.toArray[i]? with
      | none =>
        rw [ho] at h2
        exact hrec _ _ h2
      | some p =>
        rw [ho] at h2
        simp only at h2 ⊢
        split at h2
        · rename_i hw
          rw [if_pos hw]
          rcases h2 with h3 | ⟨h3, h4⟩
          · exact .inl (wp_last hrec h3)
          · exact .inr ⟨h3, h4⟩
        · rename_i hw
          rw [if_neg hw]
          exact hrec _ _ h2

theorem rep_false (n i : Nat) : (Array.replicate n false).getD i false = false := by
  unfold Array.getD
  split <;> simp
theorem rep_true {n i : Nat} (h : i < n) : (Array.replicate n false).getD i true = false := by
  unfold Array.getD
  rw [dif_pos (by simpa using h)]
  simp

/-- **A region whose last operation waits for all others.** -/
theorem wp_region_last (C : World → Prop) (G : World → World → Prop) (R : Tmp → Option (Value → World → Prop)) {id : Nat} {a : Act} {w : World} (o : Oper) (hl : l.getLast? = some o) (hd : o.dst = none)
    (hm : P.follows .mixedOrders = true) (hL : lastB l.toArray = true) (hB : Region.lexB .any (idleLast l).toArray = true) (hA : apartDst (idleLast l) = true) (hR : Stable C G R) (hC : C w.drew)
    (h : walkR P (idleLast l).toArray C G R (fun F a' => ∀ w', C w' → Knows R F a' w' → wpList P l.toArray Q [o] a' w') (idleLast l) (fun _ => False) a) : (Code.region id l.toArray true).wp P Q a w := by
  simp only [Region.lexB, Bool.and_eq_true] at hB
  have hD := apartDst_spec hA
  have hk : ∀ w, Knows R (fun _ => False) a w := fun w s hs => hs.elim
  refine wp_region_any hm ?_
  have hsz : l.toArray.size = (idleLast l).toArray.size := by simp [idleLast_len]
  have hne : 0 < l.length := by
    cases l with
    | nil => simp at hl
    | cons x r => simp
  refine wpAny_last hL hl hd _ _ _ _ ⟨by simp, fun i o' _ hi => by rw [rep_false] at hi; cases hi⟩ (rep_true (by simp; omega)) ?_
  rw [hsz]
  refine wpAny_of_anyR hR (E := fun F a' => ∀ w', C w' → Knows R F a' w' → wpList P l.toArray Q [o] a' w') (fun F a w hC hK h => h w hC hK) hD _ _ (fun _ => False) a _ (fun _ _ _ _ _ _ h => h) hC (hk _) ?_
  have := walkR_any (md := .any) hR hD hB.1 (idleLast l) 0 (Array.replicate (idleLast l).toArray.size false) (fun _ => False) a (by simp) (by simpa using hB.2) (fun _ _ _ _ _ _ h => h) ⟨_, hC, hk _⟩ h
  simpa using this

/-- The idle operation. -/
theorem walkR_idle {C : World → Prop} {G : World → World → Prop} {R : Tmp → Option (Value → World → Prop)} {E : (Tmp → Prop) → Act → Prop} {F : Tmp → Prop} {a : Act} (hd : o.dst = none) (hG : ∀ w, C w → G w w) (h : E F a) : walkR P l.toArray C G R E [idle o] F a := by
  show opAt P l.toArray C G R (idle o) E F a
  have hput : ∀ v, a.put (idle o).dst v = a := fun v => by show a.put o.dst v = a; rw [hd]; rfl
  refine ⟨fun _ => ?_, fun _ => by rw [hput]; exact h⟩
  unfold opDo
  have hd' : (idle o).dst = none := hd
  rw [hd']
  exact ⟨fun w hC _ => ⟨hC, hG w hC, trivial⟩, h⟩
end
end Go.Proofs.YtilkpjcbmllgmaaGreatDoor

namespace Go.Proofs.YtilkpjcbmllgmaaGreatDoor
set_option linter.unusedVariables false
set_option linter.unusedSimpArgs false
open Go Go.RowKit

set_option maxHeartbeats 400000 in
theorem formulaOf_any (S : Nat → Prop) (op : Int) (hop : I64 op) (ts : List Tree) (v : Value) (w : World) (h : isForms S ts v w) :
    Calls Tryz.prog 118 #[.int .i64 op, v] w fun e w' => ∃ (a : Option Addr) (c : Nat), e = .returned (.agg #[.int .i64 op, .string ⟨#[]⟩, .slice a ts.length c]) ∧ isForm S (.node op ⟨#[]⟩ ts) (.agg #[.int .i64 op, .string ⟨#[]⟩, .slice a ts.length c]) w' ∧ Below w.heap.size w w' := by
  obtain ⟨a, c, rfl, hl, hc, hf⟩ := h
  have HF := hidIt hf
  clear hf
  generalize hn : ts.length = n at *
  go_enter Tryz.func118, Tryz.ntmps118
  go_wp2_with fail
  have hnew := heap_alloc_new w (.cells #[.int .i64 op, .string ⟨#[]⟩, .slice a n c] 24)
  obtain ⟨r0, r1, r2⟩ := cell_of3 hnew
  have hlt := lt_of_block hnew
  refine bodyPost_ret (v := .agg #[.int .i64 op, .string ⟨#[]⟩, .slice a n c]) (by simp [results, Tryz.results118, go_sem, r0, r1, r2, hlt]) rfl ?_
  subst hn
  exact ⟨a, c, rfl, FormIn.mk (FormsIn.go HF.out (Grows.alloc w _)) rfl hop nil_le hl hc, Grows.alloc w _⟩

theorem rel_fof {W w : World} (hC : Ext W w) {S : Nat → Prop} {op : Int} (hop : I64 op) {ts : List Tree} {v : Value} (h : isForms S ts v w) :
    Calls Tryz.prog 118 #[.int .i64 op, v] w fun e w'' => ∃ u, e = .returned u ∧ Ext W w'' ∧ Grows w w'' ∧ isForm S (.node op ⟨#[]⟩ ts) u w'' :=
  rel_call hC ((formulaOf_any S op hop ts v w h).mono fun _ _ ⟨_, _, he, hf, hb⟩ => ⟨_, he, hf, hb⟩)

/-- The formula that says y where the atom is true, and n where it is false. -/
def choiceT (s : ByteArray) (y n : Tree) : Tree :=
  if y.op = 1 ∧ n.op = 2 then .node 3 s []
  else if y.op = 1 then .node 6 ⟨#[]⟩ [.node 3 s [], n]
  else if y.op = 2 ∧ n.op = 1 then .node 4 ⟨#[]⟩ [.node 3 s []]
  else if y.op = 2 then .node 5 ⟨#[]⟩ [.node 4 ⟨#[]⟩ [.node 3 s []], n]
  else if n.op = 1 then .node 6 ⟨#[]⟩ [.node 4 ⟨#[]⟩ [.node 3 s []], y]
  else if n.op = 2 then .node 5 ⟨#[]⟩ [.node 3 s [], y]
  else .node 6 ⟨#[]⟩ [.node 5 ⟨#[]⟩ [.node 3 s [], y], .node 5 ⟨#[]⟩ [.node 4 ⟨#[]⟩ [.node 3 s []], n]]

/-- What choice leaves. -/
def CPost (S : Nat → Prop) (T : Tree) (w : World) (e : Ending) (w' : World) : Prop := ∃ u : Value, e = .returned u ∧ FormIn w' S u T ∧ Below w.heap.size w w'

/-- A formula in the world, apart from block R; stored there. -/
theorem CPost.stored {S : Nat → Prop} {T : Tree} {w W : World} {R : Nat} (hR : w.heap.size ≤ R) {o : Int} {s : ByteArray} {a : Option Addr} {n c : Nat} (hf : FormIn W (fun i => S i ∧ i ≠ R) (.agg #[.int .i64 o, .string s, .slice a n c]) T) (hb : Below w.heap.size w W) :
    CPost S T w (.returned (.agg #[.int .i64 o, .string s, .slice a n c])) (((W.setCell ⟨R, 0, none⟩ (.int .i64 o)).setCell ⟨R, 1, none⟩ (.string s)).setCell ⟨R, 2, none⟩ (.slice a n c)) := by
  have hg := set_three W R (.int .i64 o) (.string s) (.slice a n c)
  refine ⟨_, rfl, FormIn.mono (FormIn.kept hf fun i hi hl => hg.block i hl (fun e => hi.2 (by injection e with e))) (fun i _ hi => hi.1), below_of_only (b := R) (only_trans (only_of_below hb _) hg) hR⟩

set_option maxRecDepth 100000 in
set_option maxHeartbeats 4000000 in
theorem choice_any (S : Nat → Prop) (s : ByteArray) (hs : s.size ≤ maxLen) (y n : Tree) (vy vn : Value) (w : World) (hy : FormIn w S vy y) (hn : FormIn w S vn n) (hS : ∀ i, w.heap.size ≤ i → S i) :
    Calls Tryz.prog 105 #[.string s, vy, vn] w (CPost S (choiceT s y n) w) := by
  obtain ⟨ya, yc, yb, yo, rfl, hyop, hyn, hyl, hyc, -, -⟩ := hy.form
  obtain ⟨na, nc, nb, no, rfl, hnop, hnn, hnl, hnc, -, -⟩ := hn.form
  obtain ⟨W0, hW0⟩ : ∃ W0 : World, W0 = (((w.alloc (.cells #[.int .i64 y.op, .string y.name, .slice ya y.args.length yc] 24)).alloc (.cells #[.int .i64 n.op, .string n.name, .slice na n.args.length nc] 24)).alloc (.cells #[.int .i64 0, .string ⟨#[]⟩, .slice none 0 0] 24)).alloc (.cells #[.int .i64 3, .string s, .slice none 0 0] 24) := ⟨_, rfl⟩
  have hsz : W0.heap.size = w.heap.size + 4 := by rw [hW0]; simp
  have hb0 : Below w.heap.size w W0 := by rw [hW0]; exact ((((Below.refl _ _).alloc (Nat.le_refl _) _).alloc (by simp) _).alloc (by simp; omega) _).alloc (by simp; omega) _
  have hk0 : W0.heap[w.heap.size]? = some (.cells #[.int .i64 y.op, .string y.name, .slice ya y.args.length yc] 24 (0, 0)) := by
    rw [hW0]; exact blk_kept (blk_kept (blk_kept (heap_alloc_new w _) (Grows.alloc _ _)) (Grows.alloc _ _)) (Grows.alloc _ _)
  have hk1 : W0.heap[w.heap.size + 1]? = some (.cells #[.int .i64 n.op, .string n.name, .slice na n.args.length nc] 24 (0, 0)) := by
    rw [hW0]; exact blk_kept (blk_kept (heap_alloc_at (by simp)) (Grows.alloc _ _)) (Grows.alloc _ _)
  have hk2 : W0.heap[w.heap.size + 2]? = some (.cells #[.int .i64 0, .string ⟨#[]⟩, .slice none 0 0] 24 (0, 0)) := by
    rw [hW0]; exact blk_kept (heap_alloc_at (by simp)) (Grows.alloc _ _)
  have hk3 : W0.heap[w.heap.size + 3]? = some (.cells #[.int .i64 3, .string s, .slice none 0 0] 24 (0, 0)) := by
    rw [hW0]; exact heap_alloc_at (by simp)
  have HY := hidIt ((hy.mono (S' := fun i => S i ∧ i ≠ w.heap.size + 1 + 1) (fun i hi h => ⟨h, by omega⟩)).go hb0)
  have HN := hidIt ((hn.mono (S' := fun i => S i ∧ i ≠ w.heap.size + 1 + 1) (fun i hi h => ⟨h, by omega⟩)).go hb0)
  have HSS := hidIt hS
  have HZ := hidIt hsz
  have HB0 := hidIt hb0
  have HK0 := hidIt hk0
  have HK1 := hidIt hk1
  have HK2 := hidIt hk2
  have HK3 := hidIt hk3
  have HSZ := hidIt hs
  have HW := hidIt hW0
  have HSS2 : Hid (∀ i, W0.heap.size ≤ i → S i ∧ i ≠ w.heap.size + 1 + 1) := fun i hi => ⟨hS i (by omega), by omega⟩
  clear hy hn hS hb0 hk0 hk1 hk2 hk3 hs hsz hW0
  go_enter Tryz.func105, Tryz.ntmps105
  go_wp2_with fail
  rw [← HW.out]
  have e4 : w.heap.size + 1 + 1 + 1 + 1 = W0.heap.size := HZ.out.symm
  rw [e4]
  clear e4
  refine (formulaOf_any (fun i => S i ∧ i ≠ w.heap.size + 1 + 1) 4 (i64_small (by omega) (by omega)) [.node 3 s []] _ _ (isForms_one (HSS2.out _ (Nat.le_refl _)) (FormIn.mk (FormsIn.nil none) rfl (i64_small (by omega) (by omega)) HSZ.out (Nat.le_refl _) (Nat.zero_le _)))).mono ?_
  rintro e W1 ⟨a1, c1, rfl, hf1, hb1⟩
  have hb01 : Below W0.heap.size W0 W1 := (Grows.alloc W0 _).trans (Below.mono hb1 (by simp))
  have hb02 : Below W0.heap.size W0 (W1.alloc (.cells #[.int .i64 4, .string ⟨#[]⟩, .slice a1 1 c1] 24)) := hb01.alloc hb01.size _
  have HA : Hid (FormIn (W1.alloc (.cells #[.int .i64 4, .string ⟨#[]⟩, .slice a1 1 c1] 24)) (fun i => S i ∧ i ≠ w.heap.size + 1 + 1) (.agg #[.int .i64 3, .string s, .slice none 0 0]) (.node 3 s [])) := FormIn.mk (FormsIn.nil none) rfl (i64_small (by omega) (by omega)) HSZ.out (Nat.le_refl _) (Nat.zero_le _)
  have HNA : Hid (FormIn (W1.alloc (.cells #[.int .i64 4, .string ⟨#[]⟩, .slice a1 1 c1] 24)) (fun i => S i ∧ i ≠ w.heap.size + 1 + 1) (.agg #[.int .i64 4, .string ⟨#[]⟩, .slice a1 1 c1]) (.node 4 ⟨#[]⟩ [.node 3 s []])) := hf1.go (Grows.alloc _ _)
  have HY2 := hidIt (HY.out.go hb02)
  have HN2 := hidIt (HN.out.go hb02)
  have HBL := hidIt (HB0.out.trans (Below.mono hb02 HB0.out.size))
  have HFR : Hid (∀ i, (W1.alloc (.cells #[.int .i64 4, .string ⟨#[]⟩, .slice a1 1 c1] 24)).heap.size ≤ i → S i ∧ i ≠ w.heap.size + 1 + 1) := fun i hi => HSS2.out i (Nat.le_trans hb02.size hi)
  obtain ⟨y0, y1, y2⟩ := cell_of3 (blk_kept HK0.out hb01)
  obtain ⟨n0, n1, n2⟩ := cell_of3 (blk_kept HK1.out hb01)
  obtain ⟨a0, a1', a2⟩ := cell_of3 (blk_kept HK3.out hb01)
  have hl0 := lt_of_block (blk_kept HK0.out hb01)
  have hl1 := lt_of_block (blk_kept HK1.out hb01)
  have hl3 := lt_of_block (blk_kept HK3.out hb01)
  have HKR := hidIt (blk_kept HK2.out hb02)
  have HCB : Hid (Below W1.heap.size W1 (W1.alloc (.cells #[.int .i64 4, .string ⟨#[]⟩, .slice a1 1 c1] 24))) := Grows.alloc _ _
  have hk8 := heap_alloc_new W1 (.cells #[.int .i64 4, .string ⟨#[]⟩, .slice a1 1 c1] 24)
  have y0 := (HCB.out.cell (p := ⟨w.heap.size, 0, none⟩) hl0).trans y0
  have y1 := (HCB.out.cell (p := ⟨w.heap.size, 1, none⟩) hl0).trans y1
  have y2 := (HCB.out.cell (p := ⟨w.heap.size, 2, none⟩) hl0).trans y2
  have n0 := (HCB.out.cell (p := ⟨w.heap.size + 1, 0, none⟩) hl1).trans n0
  have n1 := (HCB.out.cell (p := ⟨w.heap.size + 1, 1, none⟩) hl1).trans n1
  have n2 := (HCB.out.cell (p := ⟨w.heap.size + 1, 2, none⟩) hl1).trans n2
  have a0 := (HCB.out.cell (p := ⟨w.heap.size + 1 + 1 + 1, 0, none⟩) hl3).trans a0
  have a1' := (HCB.out.cell (p := ⟨w.heap.size + 1 + 1 + 1, 1, none⟩) hl3).trans a1'
  have a2 := (HCB.out.cell (p := ⟨w.heap.size + 1 + 1 + 1, 2, none⟩) hl3).trans a2
  obtain ⟨b0, b1, b2⟩ := cell_of3 hk8
  obtain ⟨r0, r1, r2⟩ := cell_of3 HKR.out
  obtain ⟨f0, f1, f2⟩ := cells_free HKR.out
  have hrl := lt_of_block HKR.out
  have hcs : (y.op = 1 ∧ n.op = 2) ∨ (y.op = 1 ∧ n.op ≠ 2) ∨ (y.op = 2 ∧ n.op = 1) ∨ (y.op = 2 ∧ n.op ≠ 1) ∨ ((y.op ≠ 1 ∧ y.op ≠ 2) ∧ n.op = 1) ∨ ((y.op ≠ 1 ∧ y.op ≠ 2) ∧ n.op = 2) ∨ ((y.op ≠ 1 ∧ y.op ≠ 2) ∧ n.op ≠ 1 ∧ n.op ≠ 2) := by omega
  clear hb1 hb01 hb02 hf1 HY HN HSS HZ HB0 HK0 HK1 HK2 HK3 HW HSS2 hl0 hl1 hl3 hk8 hyop hnop hyn hnn
  unfold maxLen at hyc hnc
  rcases hcs with ⟨g1, g2⟩ | ⟨g1, g2⟩ | ⟨g1, g2⟩ | ⟨g1, g2⟩ | ⟨⟨g1, g3⟩, g2⟩ | ⟨⟨g1, g3⟩, g2⟩ | ⟨⟨g1, g3⟩, g2, g4⟩
  · have e0 : (y.op == 1) = true := by rw [g1]; rfl
    have e1 : (n.op == 2) = true := by rw [g2]; rfl
    have HE : Hid (choiceT s y n = (.node 3 s [])) := by
      show _ = _
      unfold choiceT
      simp [g1, g2]
    clear g1 g2
    go_wp2_with fail
    refine bodyPost_ret (v := .agg #[.int .i64 3, .string s, .slice none 0 0]) (by simp [results, Tryz.results105, go_sem, r0, r1, r2, hrl]) rfl ?_
    rw [HE.out]
    exact CPost.stored (by omega) HA.out HBL.out
  · have e0 : (y.op == 1) = true := by rw [g1]; rfl
    have e1 : (n.op == 2) = false := by rw [beq_eq_false_iff_ne]; omega
    have HE : Hid (choiceT s y n = (.node 6 ⟨#[]⟩ [(.node 3 s []), n])) := by
      show _ = _
      unfold choiceT
      simp [g1, g2]
    clear g1 g2
    go_wp2_with fail
    have hrow := isForms_two (S := fun i => S i ∧ i ≠ w.heap.size + 1 + 1) (HFR.out _ (Nat.le_refl _)) HA.out HN2.out
    rw [World.size_alloc] at hrow
    refine (formulaOf_any (fun i => S i ∧ i ≠ w.heap.size + 1 + 1) 6 (i64_small (by omega) (by omega)) [(.node 3 s []), n] _ _ hrow).mono ?_
    clear hrow
    rintro e W3 ⟨a3, c3, rfl, hf3, hb3⟩
    have hbw := (Grows.alloc (W1.alloc (.cells #[.int .i64 4, .string ⟨#[]⟩, .slice a1 1 c1] 24)) _).trans (Below.mono hb3 (by simp))
    have HB3 := hidIt (HBL.out.trans (Below.mono hbw HBL.out.size))
    have HK3 := hidIt (blk_kept HKR.out hbw)
    have HF3 := hidIt hf3
    clear r0 r1 r2 f0 f1 f2 hrl hbw hb3 hf3 y0 y1 y2 n0 n1 n2 a0 a1' a2 b0 b1 b2
    obtain ⟨r0, r1, r2⟩ := cell_of3 HK3.out
    obtain ⟨f0, f1, f2⟩ := cells_free HK3.out
    have hrl := lt_of_block HK3.out
    go_wp2_with fail
    refine bodyPost_ret (v := .agg #[.int .i64 6, .string ⟨#[]⟩, .slice a3 2 c3]) (by simp [results, Tryz.results105, go_sem, r0, r1, r2, hrl]) rfl ?_
    rw [HE.out]
    exact CPost.stored (by omega) HF3.out HB3.out
  · have e0 : (y.op == 1) = false := by rw [beq_eq_false_iff_ne]; omega
    have e1 : (y.op == 2) = true := by rw [g1]; rfl
    have e2 : (n.op == 1) = true := by rw [g2]; rfl
    have HE : Hid (choiceT s y n = (.node 4 ⟨#[]⟩ [.node 3 s []])) := by
      show _ = _
      unfold choiceT
      simp [g1, g2]
    clear g1 g2
    go_wp2_with fail
    refine bodyPost_ret (v := .agg #[.int .i64 4, .string ⟨#[]⟩, .slice a1 1 c1]) (by simp [results, Tryz.results105, go_sem, r0, r1, r2, hrl]) rfl ?_
    rw [HE.out]
    exact CPost.stored (by omega) HNA.out HBL.out
  · have e0 : (y.op == 1) = false := by rw [beq_eq_false_iff_ne]; omega
    have e1 : (y.op == 2) = true := by rw [g1]; rfl
    have e2 : (n.op == 1) = false := by rw [beq_eq_false_iff_ne]; omega
    have HE : Hid (choiceT s y n = (.node 5 ⟨#[]⟩ [(.node 4 ⟨#[]⟩ [.node 3 s []]), n])) := by
      show _ = _
      unfold choiceT
      simp [g1, g2]
    clear g1 g2
    go_wp2_with fail
    have hrow := isForms_two (S := fun i => S i ∧ i ≠ w.heap.size + 1 + 1) (HFR.out _ (Nat.le_refl _)) HNA.out HN2.out
    rw [World.size_alloc] at hrow
    refine (formulaOf_any (fun i => S i ∧ i ≠ w.heap.size + 1 + 1) 5 (i64_small (by omega) (by omega)) [(.node 4 ⟨#[]⟩ [.node 3 s []]), n] _ _ hrow).mono ?_
    clear hrow
    rintro e W3 ⟨a3, c3, rfl, hf3, hb3⟩
    have hbw := (Grows.alloc (W1.alloc (.cells #[.int .i64 4, .string ⟨#[]⟩, .slice a1 1 c1] 24)) _).trans (Below.mono hb3 (by simp))
    have HB3 := hidIt (HBL.out.trans (Below.mono hbw HBL.out.size))
    have HK3 := hidIt (blk_kept HKR.out hbw)
    have HF3 := hidIt hf3
    clear r0 r1 r2 f0 f1 f2 hrl hbw hb3 hf3 y0 y1 y2 n0 n1 n2 a0 a1' a2 b0 b1 b2
    obtain ⟨r0, r1, r2⟩ := cell_of3 HK3.out
    obtain ⟨f0, f1, f2⟩ := cells_free HK3.out
    have hrl := lt_of_block HK3.out
    go_wp2_with fail
    refine bodyPost_ret (v := .agg #[.int .i64 5, .string ⟨#[]⟩, .slice a3 2 c3]) (by simp [results, Tryz.results105, go_sem, r0, r1, r2, hrl]) rfl ?_
    rw [HE.out]
    exact CPost.stored (by omega) HF3.out HB3.out
  · have e0 : (y.op == 1) = false := by rw [beq_eq_false_iff_ne]; omega
    have e1 : (y.op == 2) = false := by rw [beq_eq_false_iff_ne]; omega
    have e2 : (n.op == 1) = true := by rw [g2]; rfl
    have HE : Hid (choiceT s y n = (.node 6 ⟨#[]⟩ [(.node 4 ⟨#[]⟩ [.node 3 s []]), y])) := by
      show _ = _
      unfold choiceT
      simp [g1, g2, g3]
    clear g1 g2 g3
    go_wp2_with fail
    have hrow := isForms_two (S := fun i => S i ∧ i ≠ w.heap.size + 1 + 1) (HFR.out _ (Nat.le_refl _)) HNA.out HY2.out
    rw [World.size_alloc] at hrow
    refine (formulaOf_any (fun i => S i ∧ i ≠ w.heap.size + 1 + 1) 6 (i64_small (by omega) (by omega)) [(.node 4 ⟨#[]⟩ [.node 3 s []]), y] _ _ hrow).mono ?_
    clear hrow
    rintro e W3 ⟨a3, c3, rfl, hf3, hb3⟩
    have hbw := (Grows.alloc (W1.alloc (.cells #[.int .i64 4, .string ⟨#[]⟩, .slice a1 1 c1] 24)) _).trans (Below.mono hb3 (by simp))
    have HB3 := hidIt (HBL.out.trans (Below.mono hbw HBL.out.size))
    have HK3 := hidIt (blk_kept HKR.out hbw)
    have HF3 := hidIt hf3
    clear r0 r1 r2 f0 f1 f2 hrl hbw hb3 hf3 y0 y1 y2 n0 n1 n2 a0 a1' a2 b0 b1 b2
    obtain ⟨r0, r1, r2⟩ := cell_of3 HK3.out
    obtain ⟨f0, f1, f2⟩ := cells_free HK3.out
    have hrl := lt_of_block HK3.out
    go_wp2_with fail
    refine bodyPost_ret (v := .agg #[.int .i64 6, .string ⟨#[]⟩, .slice a3 2 c3]) (by simp [results, Tryz.results105, go_sem, r0, r1, r2, hrl]) rfl ?_
    rw [HE.out]
    exact CPost.stored (by omega) HF3.out HB3.out
  · have e0 : (y.op == 1) = false := by rw [beq_eq_false_iff_ne]; omega
    have e1 : (y.op == 2) = false := by rw [beq_eq_false_iff_ne]; omega
    have e2 : (n.op == 1) = false := by rw [beq_eq_false_iff_ne]; omega
    have e3 : (n.op == 2) = true := by rw [g2]; rfl
    have HE : Hid (choiceT s y n = (.node 5 ⟨#[]⟩ [(.node 3 s []), y])) := by
      show _ = _
      unfold choiceT
      simp [g1, g2, g3]
    clear g1 g2 g3
    go_wp2_with fail
    have hrow := isForms_two (S := fun i => S i ∧ i ≠ w.heap.size + 1 + 1) (HFR.out _ (Nat.le_refl _)) HA.out HY2.out
    rw [World.size_alloc] at hrow
    refine (formulaOf_any (fun i => S i ∧ i ≠ w.heap.size + 1 + 1) 5 (i64_small (by omega) (by omega)) [(.node 3 s []), y] _ _ hrow).mono ?_
    clear hrow
    rintro e W3 ⟨a3, c3, rfl, hf3, hb3⟩
    have hbw := (Grows.alloc (W1.alloc (.cells #[.int .i64 4, .string ⟨#[]⟩, .slice a1 1 c1] 24)) _).trans (Below.mono hb3 (by simp))
    have HB3 := hidIt (HBL.out.trans (Below.mono hbw HBL.out.size))
    have HK3 := hidIt (blk_kept HKR.out hbw)
    have HF3 := hidIt hf3
    clear r0 r1 r2 f0 f1 f2 hrl hbw hb3 hf3 y0 y1 y2 n0 n1 n2 a0 a1' a2 b0 b1 b2
    obtain ⟨r0, r1, r2⟩ := cell_of3 HK3.out
    obtain ⟨f0, f1, f2⟩ := cells_free HK3.out
    have hrl := lt_of_block HK3.out
    go_wp2_with fail
    refine bodyPost_ret (v := .agg #[.int .i64 5, .string ⟨#[]⟩, .slice a3 2 c3]) (by simp [results, Tryz.results105, go_sem, r0, r1, r2, hrl]) rfl ?_
    rw [HE.out]
    exact CPost.stored (by omega) HF3.out HB3.out
  · have e0 : (y.op == 1) = false := by rw [beq_eq_false_iff_ne]; omega
    have e1 : (y.op == 2) = false := by rw [beq_eq_false_iff_ne]; omega
    have e2 : (n.op == 1) = false := by rw [beq_eq_false_iff_ne]; omega
    have e3 : (n.op == 2) = false := by rw [beq_eq_false_iff_ne]; omega
    have HE : Hid (choiceT s y n = (.node 6 ⟨#[]⟩ [.node 5 ⟨#[]⟩ [.node 3 s [], y], .node 5 ⟨#[]⟩ [.node 4 ⟨#[]⟩ [.node 3 s []], n]])) := by
      show _ = _
      unfold choiceT
      simp [g1, g2, g3, g4]
    clear g1 g2 g3 g4
    go_wp2_with fail
    have Ky0 := ext_cell y0
    have Ky1 := ext_cell y1
    have Ky2 := ext_cell y2
    have Kn0 := ext_cell n0
    have Kn1 := ext_cell n1
    have Kn2 := ext_cell n2
    have Ka0 := ext_cell a0
    have Ka1 := ext_cell a1'
    have Ka2 := ext_cell a2
    have Kb0 := ext_cell b0
    have Kb1 := ext_cell b1
    have Kb2 := ext_cell b2
    clear y0 y1 y2 n0 n1 n2 a0 a1' a2 b0 b1 b2 r0 r1 r2 f0 f1 f2 hrl
    generalize (W1.alloc (.cells #[.int .i64 4, .string ⟨#[]⟩, .slice a1 1 c1] 24)) = W at *
    refine wp_region_last (Ext W) Grows (relTab [(68, isForms (fun i => S i ∧ i ≠ w.heap.size + 1 + 1) [(.node 3 s []), y]), (69, isForm (fun i => S i ∧ i ≠ w.heap.size + 1 + 1) (.node 5 ⟨#[]⟩ [.node 3 s [], y])), (72, isForms (fun i => S i ∧ i ≠ w.heap.size + 1 + 1) [(.node 4 ⟨#[]⟩ [.node 3 s []]), n]), (73, isForm (fun i => S i ∧ i ≠ w.heap.size + 1 + 1) (.node 5 ⟨#[]⟩ [.node 4 ⟨#[]⟩ [.node 3 s []], n])), (74, isForms (fun i => S i ∧ i ≠ w.heap.size + 1 + 1) [(.node 5 ⟨#[]⟩ [.node 3 s [], y]), (.node 5 ⟨#[]⟩ [.node 4 ⟨#[]⟩ [.node 3 s []], n])]), (75, isForm (fun i => S i ∧ i ≠ w.heap.size + 1 + 1) (.node 6 ⟨#[]⟩ [.node 5 ⟨#[]⟩ [.node 3 s [], y], .node 5 ⟨#[]⟩ [.node 4 ⟨#[]⟩ [.node 3 s []], n]]))]) _ rfl rfl (by kernel_rfl) (by kernel_rfl) (by kernel_rfl) (by kernel_rfl) (stable_cons (isForms_up _ _) (stable_cons (isForm_up _ _) (stable_cons (isForms_up _ _) (stable_cons (isForm_up _ _) (stable_cons (isForms_up _ _) (stable_cons (isForm_up _ _) (stable_nil _))))))) (Ext.start W) ?_
    simp only [idleLast]
    repeat (
      refine' walkR_plain (by kernel_rfl) rfl rfl (fun wx hC hL => ?_) ?_
      rotate_left
      · (go_simp; exact ⟨rfl, rfl⟩)
      simp only [Act.put, List.setIfInBounds_toArray, List.set_cons_zero, List.set_cons_succ])
    refine walkR_rel (by kernel_rfl) rfl rfl (of_decide_eq_true (by kernel_rfl)) (fun wx hC hL => ?_) (fun v hv => ?_)
    · go_simp
      exact ⟨hC.grown (Grows.alloc _ _), Grows.alloc _ _, isForms_two (HFR.out _ (Below.size hC)) (hC.form HA.out) (hC.form HY2.out)⟩
    obtain ⟨_, _, _, _, rfl, -⟩ := hv
    simp only [Act.put, List.setIfInBounds_toArray, List.set_cons_zero, List.set_cons_succ, List.length_cons, List.length_nil, Nat.zero_add, Nat.reduceAdd]
    refine walkR_rel (by kernel_rfl) rfl rfl (of_decide_eq_true (by kernel_rfl)) (fun wx hC hL => ?_) (fun v hv => ?_)
    · go_simp
      exact rel_fof hC (i64_small (by omega) (by omega)) (hL.get 68 (.inl rfl) (by kernel_rfl) rfl rfl)
    obtain ⟨_, _, hv⟩ := hv
    obtain ⟨_, _, _, _, rfl, -⟩ := FormIn.form hv
    clear hv
    simp only [Act.put, List.setIfInBounds_toArray, List.set_cons_zero, List.set_cons_succ, Tree.op_node, Tree.name_node, Tree.args_node, List.length_cons, List.length_nil, Nat.zero_add, Nat.reduceAdd]
    repeat (
      refine' walkR_plain (by kernel_rfl) rfl rfl (fun wx hC hL => ?_) ?_
      rotate_left
      · (go_simp; exact ⟨rfl, rfl⟩)
      simp only [Act.put, List.setIfInBounds_toArray, List.set_cons_zero, List.set_cons_succ])
    refine walkR_rel (by kernel_rfl) rfl rfl (of_decide_eq_true (by kernel_rfl)) (fun wx hC hL => ?_) (fun v hv => ?_)
    · go_simp
      exact ⟨hC.grown (Grows.alloc _ _), Grows.alloc _ _, isForms_two (HFR.out _ (Below.size hC)) (hC.form HNA.out) (hC.form HN2.out)⟩
    obtain ⟨_, _, _, _, rfl, -⟩ := hv
    simp only [Act.put, List.setIfInBounds_toArray, List.set_cons_zero, List.set_cons_succ, List.length_cons, List.length_nil, Nat.zero_add, Nat.reduceAdd]
    refine walkR_rel (by kernel_rfl) rfl rfl (of_decide_eq_true (by kernel_rfl)) (fun wx hC hL => ?_) (fun v hv => ?_)
    · go_simp
      exact rel_fof hC (i64_small (by omega) (by omega)) (hL.get 72 (.inl rfl) (by kernel_rfl) rfl rfl)
    obtain ⟨_, _, hv⟩ := hv
    obtain ⟨_, _, _, _, rfl, -⟩ := FormIn.form hv
    clear hv
    simp only [Act.put, List.setIfInBounds_toArray, List.set_cons_zero, List.set_cons_succ, Tree.op_node, Tree.name_node, Tree.args_node, List.length_cons, List.length_nil, Nat.zero_add, Nat.reduceAdd]
    refine walkR_rel (by kernel_rfl) rfl rfl (of_decide_eq_true (by kernel_rfl)) (fun wx hC hL => ?_) (fun v hv => ?_)
    · go_simp
      exact ⟨hC.grown (Grows.alloc _ _), Grows.alloc _ _, isForms_two (HFR.out _ (Below.size hC)) (hL.get 69 (by simp [more]) (by kernel_rfl) rfl rfl) (hL.get 73 (by simp [more]) (by kernel_rfl) rfl rfl)⟩
    obtain ⟨_, _, _, _, rfl, -⟩ := hv
    simp only [Act.put, List.setIfInBounds_toArray, List.set_cons_zero, List.set_cons_succ, List.length_cons, List.length_nil, Nat.zero_add, Nat.reduceAdd]
    refine walkR_rel (by kernel_rfl) rfl rfl (of_decide_eq_true (by kernel_rfl)) (fun wx hC hL => ?_) (fun v hv => ?_)
    · go_simp
      exact rel_fof hC (i64_small (by omega) (by omega)) (hL.get 74 (.inl rfl) (by kernel_rfl) rfl rfl)
    obtain ⟨_, _, hv⟩ := hv
    obtain ⟨a9, c9, _, _, rfl, -⟩ := FormIn.form hv
    clear hv
    simp only [Act.put, List.setIfInBounds_toArray, List.set_cons_zero, List.set_cons_succ, Tree.op_node, Tree.name_node, Tree.args_node, List.length_cons, List.length_nil, Nat.zero_add, Nat.reduceAdd]
    refine walkR_idle rfl (fun wx _ => Below.refl _ _) ?_
    refine fun w20 hE20 hK => ?_
    have hf : FormIn w20 (fun i => S i ∧ i ≠ w.heap.size + 1 + 1) (.agg #[.int .i64 6, .string ⟨#[]⟩, .slice a9 2 c9]) (.node 6 ⟨#[]⟩ [.node 5 ⟨#[]⟩ [.node 3 s [], y], .node 5 ⟨#[]⟩ [.node 4 ⟨#[]⟩ [.node 3 s []], n]]) := hK 75 (by simp [more]) _ rfl
    have HF := hidIt hf
    have HB20 := hidIt (HBL.out.trans (Below.mono hE20 HBL.out.size))
    have HK20 := hidIt (blk_kept HKR.out hE20)
    obtain ⟨r0, r1, r2⟩ := cell_of3 HK20.out
    obtain ⟨f0, f1, f2⟩ := cells_free HK20.out
    have hrl := lt_of_block HK20.out
    clear hf hK hE20
    simp only [List.getLast_cons_cons, List.getLast_singleton]
    go_wp2_with fail
    refine bodyPost_ret (v := .agg #[.int .i64 6, .string ⟨#[]⟩, .slice a9 2 c9]) (by simp [results, Tryz.results105, go_sem, r0, r1, r2, hrl]) rfl ?_
    rw [HE.out]
    exact CPost.stored (by omega) HF.out HB20.out
end Go.Proofs.YtilkpjcbmllgmaaGreatDoor

namespace Go.Proofs.YtilkpjcbmllgmaaGreatDoor
set_option linter.unusedVariables false
set_option linter.unusedSimpArgs false
open Go Go.RowKit

/-- The worlds in which the first atom is true, without its bit; and those in which it is false. -/
def splitP (S : BitVec 64) (d : Nat) (j : Nat) : Bool := decide (j < 32) && S.getLsbD (2 * j + d)
def splitY (S : BitVec 64) : BitVec 64 := wset (splitP S 1)
def splitN (S : BitVec 64) : BitVec 64 := wset (splitP S 0)

theorem bit_shr (S : BitVec 64) (m : Nat) : bits .and .u64 ((S.toNat : Int) / 2 ^ m) 1 = if S.getLsbD m then 1 else 0 := by
  have e : ((S.toNat : Int) / 2 ^ m) = ((S >>> m).toNat : Int) := by
    rw [BitVec.toNat_ushiftRight, Nat.shiftRight_eq_div_pow]
    simp
  have e1 : (1 : Int) = ((1#64).toNat : Int) := rfl
  rw [e, e1, bits_and_bv]
  have h : (S >>> m) &&& 1#64 = BitVec.setWidth 64 (BitVec.ofBool ((S >>> m).getLsbD 0)) := BitVec.and_one_eq_setWidth_ofBool_getLsbD
  rw [h, BitVec.getLsbD_ushiftRight, Nat.add_zero]
  cases S.getLsbD m <;> rfl
theorem or_bit (A : BitVec 64) (b : Bool) (k : Nat) (hk : k < 64) : bits .or .u64 (A.toNat : Int) (IntKind.u64.wrap ((if b then 1 else 0) * 2 ^ k)) = ((if b then A ||| BitVec.twoPow 64 k else A).toNat : Int) := by
  cases b
  · have e : IntKind.u64.wrap ((if false = true then 1 else 0) * 2 ^ k) = ((0#64).toNat : Int) := by simp [IntKind.wrap_u64]
    rw [e, bits_or_bv]
    simp
  · have e : IntKind.u64.wrap ((if true = true then 1 else 0) * 2 ^ k) = IntKind.u64.wrap (2 ^ k) := by simp
    rw [e, or_one A k hk]
    simp

set_option maxRecDepth 100000 in
set_option maxHeartbeats 1000000 in
theorem split_any (S : BitVec 64) (w : World) : Calls Tryz.prog 104 #[bv S] w fun e w' => e = .returned (.tuple #[bv (splitY S), bv (splitN S)]) ∧ w = w' := by
  have hS := S.isLt
  have HEND : Hid (wsetN (splitP S 1) 32 = splitY S ∧ wsetN (splitP S 0) 32 = splitN S) := by
    constructor
    all_goals
      refine set_ext fun j hj => ?_
      first
        | rw [splitY, wset_bit _ j hj, wsetN_bit]
        | rw [splitN, wset_bit _ j hj, wsetN_bit]
      unfold splitP
      by_cases h : j < 32 <;> simp [h, hj]
  go_enter Tryz.func104, Tryz.ntmps104
  go_wp2
  go_loop [2, 3, 5] (fun y n i => ∃ k : Nat, k ≤ 32 ∧ i = .int .i64 k ∧ y = bv (wsetN (splitP S 1) k) ∧ n = bv (wsetN (splitP S 0) k)) (fun _ _ i => 32 - (intOf i).toNat)
  case atStart => exact ⟨0, Nat.zero_le _, rfl, rfl, rfl⟩
  case round =>
    obtain ⟨k, hk, rfl, rfl, rfl⟩ := hrel
    by_cases hlt : k < 32
    · have hlt' : (k : Int) < 32 := by omega
      have hk0 : (0 : Int) ≤ (k : Int) := by omega
      have HA : Hid (wsetN (splitP S 1) (k + 1) = if S.getLsbD (2 * k + 1) then wsetN (splitP S 1) k ||| BitVec.twoPow 64 k else wsetN (splitP S 1) k) := by
        show _ = _
        rw [wsetN_succ]
        simp [splitP, hlt]
      have HB : Hid (wsetN (splitP S 0) (k + 1) = if S.getLsbD (2 * k) then wsetN (splitP S 0) k ||| BitVec.twoPow 64 k else wsetN (splitP S 0) k) := by
        show _ = _
        rw [wsetN_succ]
        simp [splitP, hlt]
      generalize wsetN (splitP S 1) k = A at *
      generalize wsetN (splitP S 0) k = B at *
      go_wp2
      go_round
      case rel => exact ⟨k + 1, by omega, by go_num, by rw [HA.out, bit_shr, or_bit A _ k (by omega)], by rw [HB.out, bit_shr, or_bit B _ k (by omega)]⟩
      case measure => simp [intOf]; omega
    · obtain rfl : k = 32 := by omega
      go_wp2
      go_ret2
      exact ⟨ret_pair (by rw [HEND.out.1]) (by rw [HEND.out.2]), rfl⟩
end Go.Proofs.YtilkpjcbmllgmaaGreatDoor

namespace Go.Proofs.YtilkpjcbmllgmaaGreatDoor
set_option linter.unusedVariables false
set_option linter.unusedSimpArgs false
open Go Go.RowKit

/-- The theory of a set of worlds. -/
def thT : List ByteArray → BitVec 64 → Tree
  | [], S => if S = 0#64 then .node 2 ⟨#[]⟩ [] else .node 1 ⟨#[]⟩ []
  | x :: rest, S => if S = 0#64 then .node 2 ⟨#[]⟩ [] else if S = allS (rest.length + 1) then .node 1 ⟨#[]⟩ []
    else if splitY S = splitN S then thT rest (splitY S) else choiceT x (thT rest (splitY S)) (thT rest (splitN S))

/-- The set has worlds of n atoms alone. -/
def InS (n : Nat) (S : BitVec 64) : Prop := ∀ j, j < 64 → S.getLsbD j = true → j < 2 ^ n
theorem inS_all (n : Nat) (S : BitVec 64) : InS n (S &&& allS n) := fun j hj h => by
  rw [BitVec.getLsbD_and, Bool.and_eq_true, allS, wset_bit _ j hj, decide_eq_true_eq] at h
  exact h.2
theorem inS_splitY {n : Nat} {S : BitVec 64} (h : InS (n + 1) S) : InS n (splitY S) := fun j hj hb => by
  rw [splitY, wset_bit _ j hj] at hb
  unfold splitP at hb
  rw [Bool.and_eq_true, decide_eq_true_eq] at hb
  have := h (2 * j + 1) (by omega) hb.2
  rw [Nat.pow_succ] at this
  omega
theorem inS_splitN {n : Nat} {S : BitVec 64} (h : InS (n + 1) S) : InS n (splitN S) := fun j hj hb => by
  rw [splitN, wset_bit _ j hj] at hb
  unfold splitP at hb
  rw [Bool.and_eq_true, decide_eq_true_eq] at hb
  have := h (2 * j + 0) (by omega) hb.2
  rw [Nat.pow_succ] at this
  omega
theorem inS_zero {S : BitVec 64} (h : InS 0 S) (hS : S ≠ 0#64) : S = allS 0 := by
  have h0 : S.getLsbD 0 = true := by
    refine Classical.byContradiction fun h0 => hS (set_ext fun j hj => ?_)
    rw [BitVec.getLsbD_zero]
    cases hb : S.getLsbD j
    · rfl
    · have hj0 := h j hj hb
      obtain rfl : j = 0 := by simpa using hj0
      exact absurd hb h0
  refine set_ext fun j hj => ?_
  rw [allS, wset_bit _ j hj]
  by_cases e : j = 0
  · subst e
    simp [h0]
  · have : S.getLsbD j = false := by
      cases hb : S.getLsbD j
      · rfl
      · have := h j hj hb
        simp at this
        omega
    rw [this]
    simp
    omega

theorem eq_bv (S T : BitVec 64) : (((S.toNat : Int) == (T.toNat : Int)) : Bool) = decide (S = T) := by
  by_cases h : S = T
  · subst h; simp
  · rw [decide_eq_false h, beq_eq_false_iff_ne]
    exact fun e => h (bv_ext e)

/-- The tail of a row of strings. -/
theorem StrsIn.tail {w : World} {S : Nat → Prop} {b off : Nat} {x : ByteArray} {l : List ByteArray} (h : StrsIn w S (some ⟨b, off, none⟩) (x :: l)) : StrsIn w S (some ⟨b, off + 1, none⟩) l := by
  obtain ⟨b', off', ha, hc⟩ := h
  obtain ⟨e, hS⟩ := ha (by simp)
  obtain ⟨rfl, rfl⟩ : b = b' ∧ off = off' := by
    injection e with e1
    injection e1 with e2 e3
    exact ⟨e2, e3⟩
  refine ⟨b, off + 1, fun _ => ⟨rfl, hS⟩, fun i hi => ?_⟩
  have h1 := hc (i + 1) (by simp; omega)
  rw [List.getElem_cons_succ] at h1
  have e : off + 1 + i = off + (i + 1) := by omega
  rw [e]
  exact h1

/-- What theory leaves. -/
def ThOk (voc : List ByteArray) : Prop := ∀ (S : BitVec 64), InS voc.length S → ∀ (a : Option Addr) (c : Nat) (w : World), StrsIn w (fun _ => True) a voc → voc.length ≤ c → c ≤ maxLen →
  Calls Tryz.prog 84 #[.slice a voc.length c, bv S] w (CPost (fun i => w.heap.size ≤ i) (thT voc S) w)

theorem rel_th {W w wx : World} (hC : Ext W wx) (hR : w.heap.size < W.heap.size) {T : Tree} {f : FuncId} {args : Array Value} (h : Calls Tryz.prog f args wx (CPost (fun i => wx.heap.size ≤ i) T wx)) :
    Calls Tryz.prog f args wx fun e w'' => ∃ u, e = .returned u ∧ Ext W w'' ∧ Grows wx w'' ∧ isForm (fun i => w.heap.size ≤ i ∧ i ≠ w.heap.size) T u w'' :=
  rel_call hC (h.mono fun _ _ ⟨u, he, hf, hb⟩ => ⟨u, he, hf.mono fun i _ hi => by have := Below.size hC; exact ⟨by omega, by omega⟩, hb⟩)
theorem rel_ch {W w wx : World} (hC : Ext W wx) (hR : w.heap.size < W.heap.size) {s : ByteArray} (hs : s.size ≤ maxLen) {y n : Tree} {vy vn : Value} (hy : isForm (fun i => w.heap.size ≤ i ∧ i ≠ w.heap.size) y vy wx) (hn : isForm (fun i => w.heap.size ≤ i ∧ i ≠ w.heap.size) n vn wx) :
    Calls Tryz.prog 105 #[.string s, vy, vn] wx fun e w'' => ∃ u, e = .returned u ∧ Ext W w'' ∧ Grows wx w'' ∧ isForm (fun i => w.heap.size ≤ i ∧ i ≠ w.heap.size) (choiceT s y n) u w'' :=
  rel_call hC ((choice_any _ s hs y n vy vn wx hy hn (fun i hi => by have := Below.size hC; exact ⟨by omega, by omega⟩)).mono fun _ _ ⟨u, he, hf, hb⟩ => ⟨u, he, hf, hb⟩)

set_option maxRecDepth 100000 in
set_option maxHeartbeats 4000000 in
theorem theory_any : ∀ voc : List ByteArray, voc.length ≤ 6 → ThOk voc := by
  intro voc
  induction voc with
  | nil =>
    intro _ S hS a c w h hlc hcm
    have HNEW := hidIt (heap_alloc_new w (.cells #[.int .i64 0, .string ⟨#[]⟩, .slice none 0 0] 24))
    have HB : Hid (Below w.heap.size w (w.alloc (.cells #[.int .i64 0, .string ⟨#[]⟩, .slice none 0 0] 24))) := Grows.alloc _ _
    have hz := eq_bv S 0#64
    have he0 : ((0#64).toNat : Int) = 0 := rfl
    rw [he0] at hz
    by_cases h0 : S = 0#64
    · have HT : Hid (thT [] S = .node 2 ⟨#[]⟩ []) := by show _ = _; rw [thT, if_pos h0]
      rw [decide_eq_true h0] at hz
      clear h h0 hS he0
      obtain ⟨r0, r1, r2⟩ := cell_of3 HNEW.out
      obtain ⟨f0, f1, f2⟩ := cells_free HNEW.out
      have hrl := lt_of_block HNEW.out
      go_enter Tryz.func84, Tryz.ntmps84
      go_wp2_with fail
      refine bodyPost_ret (v := .agg #[.int .i64 2, .string ⟨#[]⟩, .slice none 0 0]) (by simp [results, Tryz.results84, go_sem, r0, r1, r2, hrl]) rfl ?_
      rw [HT.out]
      exact ⟨_, rfl, FormIn.mk (op := 2) (FormsIn.nil none) rfl (by unfold I64; omega) nil_le (Nat.le_refl _) (Nat.zero_le _), Grows.alloc _ _⟩
    · have HT : Hid (thT [] S = .node 1 ⟨#[]⟩ []) := by show _ = _; rw [thT, if_neg h0]
      have hall := eq_bv S (allS 0)
      rw [decide_eq_true (inS_zero hS h0)] at hall
      rw [decide_eq_false h0] at hz
      clear h h0 hS he0
      obtain ⟨r0, r1, r2⟩ := cell_of3 HNEW.out
      obtain ⟨f0, f1, f2⟩ := cells_free HNEW.out
      have hrl := lt_of_block HNEW.out
      go_enter Tryz.func84, Tryz.ntmps84
      go_wp2_with fail
      refine (all_any 0 (by omega) _).mono ?_
      rintro e w' ⟨rfl, rfl⟩
      go_wp2_with fail
      refine bodyPost_ret (v := .agg #[.int .i64 1, .string ⟨#[]⟩, .slice none 0 0]) (by simp [results, Tryz.results84, go_sem, r0, r1, r2, hrl]) rfl ?_
      rw [HT.out]
      exact ⟨_, rfl, FormIn.mk (op := 1) (FormsIn.nil none) rfl (by unfold I64; omega) nil_le (Nat.le_refl _) (Nat.zero_le _), Grows.alloc _ _⟩
  | cons x rest ih =>
    intro hv6 S hS a c w h hlc hcm
    have HNEW := hidIt (heap_alloc_new w (.cells #[.int .i64 0, .string ⟨#[]⟩, .slice none 0 0] 24))
    have HB : Hid (Below w.heap.size w (w.alloc (.cells #[.int .i64 0, .string ⟨#[]⟩, .slice none 0 0] 24))) := Grows.alloc _ _
    have hz := eq_bv S 0#64
    have he0 : ((0#64).toNat : Int) = 0 := rfl
    rw [he0] at hz
    simp only [List.length_cons] at hv6 hlc hS ⊢
    have hv6' : (rest.length : Int) + 1 ≤ 6 := by omega
    obtain ⟨b, off, rfl, x0, hxs⟩ := h.at 0 (by simp)
    rw [List.getElem_cons_zero] at x0 hxs
    have HTL := hidIt ((StrsIn.tail h).go HB.out)
    have hxl := World.block_lt_of_cell? w ⟨b, off + 0, none⟩ x0
    have x1 := (HB.out.cell (p := ⟨b, off + 0, none⟩) hxl).trans x0
    rw [Nat.add_zero] at x1
    have HXS := hidIt hxs
    clear x0 hxl hxs h
    obtain ⟨r0, r1, r2⟩ := cell_of3 HNEW.out
    obtain ⟨f0, f1, f2⟩ := cells_free HNEW.out
    have hrl := lt_of_block HNEW.out
    by_cases h0 : S = 0#64
    · have HT : Hid (thT (x :: rest) S = .node 2 ⟨#[]⟩ []) := by show _ = _; rw [thT, if_pos h0]
      rw [decide_eq_true h0] at hz
      clear h0 hS he0
      go_enter Tryz.func84, Tryz.ntmps84
      go_wp2_with fail
      refine bodyPost_ret (v := .agg #[.int .i64 2, .string ⟨#[]⟩, .slice none 0 0]) (by simp [results, Tryz.results84, go_sem, r0, r1, r2, hrl]) rfl ?_
      rw [HT.out]
      exact ⟨_, rfl, FormIn.mk (op := 2) (FormsIn.nil none) rfl (by unfold I64; omega) nil_le (Nat.le_refl _) (Nat.zero_le _), Grows.alloc _ _⟩
    have hz0 : ((S.toNat : Int) == 0) = false := by rw [hz, decide_eq_false h0]
    clear hz he0
    have hall := eq_bv S (allS (rest.length + 1))
    by_cases h1 : S = allS (rest.length + 1)
    · have HT : Hid (thT (x :: rest) S = .node 1 ⟨#[]⟩ []) := by show _ = _; rw [thT, if_neg h0, if_pos h1]
      rw [decide_eq_true h1] at hall
      clear h0 h1 hS
      go_enter Tryz.func84, Tryz.ntmps84
      go_wp2_with fail
      refine (all_any (rest.length + 1) (by omega) _).mono ?_
      rintro e w' ⟨rfl, rfl⟩
      go_wp2_with fail
      refine bodyPost_ret (v := .agg #[.int .i64 1, .string ⟨#[]⟩, .slice none 0 0]) (by simp [results, Tryz.results84, go_sem, r0, r1, r2, hrl]) rfl ?_
      rw [HT.out]
      exact ⟨_, rfl, FormIn.mk (op := 1) (FormsIn.nil none) rfl (by unfold I64; omega) nil_le (Nat.le_refl _) (Nat.zero_le _), Grows.alloc _ _⟩
    rw [decide_eq_false h1] at hall
    have HYS := hidIt (inS_splitY hS)
    have HNS := hidIt (inS_splitN hS)
    have HTH := hidIt (ih (by omega))
    have HR : Hid (w.heap.size < (w.alloc (.cells #[.int .i64 0, .string ⟨#[]⟩, .slice none 0 0] 24)).heap.size) := by show _ < _; simp
    have hyn := eq_bv (splitY S) (splitN S)
    unfold maxLen at hcm
    have HCA : Hid (c = 1 → rest = []) := fun h => List.eq_nil_of_length_eq_zero (by omega)
    by_cases h2 : splitY S = splitN S
    · have HT : Hid (thT (x :: rest) S = thT rest (splitY S)) := by show _ = _; rw [thT, if_neg h0, if_neg h1, if_pos h2]
      rw [decide_eq_true h2] at hyn
      clear h0 h1 h2 hS
      by_cases hc1 : c = 1
      · obtain rfl := HCA.out hc1
        subst hc1
        have hall1 : (((S.toNat : Int) == ((allS 1).toNat : Int)) : Bool) = false := hall
        clear hall
        have HTL : Hid (StrsIn (w.alloc (.cells #[.int .i64 0, .string ⟨#[]⟩, .slice none 0 0] 24)) (fun _ => True) (some ⟨b, off, none⟩) []) := StrsIn.nil _
        go_enter Tryz.func84, Tryz.ntmps84
        go_wp2_with fail
        refine (all_any 1 (by omega) _).mono ?_
        rintro e w' ⟨rfl, rfl⟩
        go_wp2_with fail
        refine (split_any S _).mono ?_
        rintro e w' ⟨rfl, rfl⟩
        generalize splitY S = Y at *
        generalize splitN S = N at *
        obtain ⟨T, hTT⟩ : ∃ T, T = thT [] Y := ⟨_, rfl⟩
        rw [← hTT] at HT
        have HTT := hidIt hTT
        clear hTT
        go_wp2_with fail
        refine (HTH.out Y HYS.out (some ⟨b, off, none⟩) _ _ HTL.out (by simp) (by unfold maxLen; omega)).mono ?_
        rintro e w2 ⟨u, rfl, hf, hb⟩
        rw [← HTT.out] at hf
        obtain ⟨a9, c9, _, _, rfl, -⟩ := hf.form
        have HF2 : Hid (FormIn w2 (fun i => w.heap.size ≤ i ∧ i ≠ w.heap.size) (.agg #[.int .i64 T.op, .string T.name, .slice a9 T.args.length c9]) T) := hf.mono fun i _ hi => by have := HR.out; exact ⟨by omega, by omega⟩
        have HB2 := hidIt (HB.out.trans (Below.mono hb HB.out.size))
        have HK2 := hidIt (blk_kept HNEW.out hb)
        clear hf hb r0 r1 r2 f0 f1 f2 hrl x1
        obtain ⟨r0, r1, r2⟩ := cell_of3 HK2.out
        obtain ⟨f0, f1, f2⟩ := cells_free HK2.out
        have hrl := lt_of_block HK2.out
        go_wp2_with fail
        refine bodyPost_ret (v := .agg #[.int .i64 T.op, .string T.name, .slice a9 T.args.length c9]) (by simp [results, Tryz.results84, go_sem, r0, r1, r2, hrl]) rfl ?_
        rw [HT.out]
        exact CPost.stored (Nat.le_refl _) HF2.out HB2.out
      · have hc2 : rest.length ≤ c - 1 := by omega
        go_enter Tryz.func84, Tryz.ntmps84
        go_wp2_with fail
        refine (all_any (rest.length + 1) (by omega) _).mono ?_
        rintro e w' ⟨rfl, rfl⟩
        go_wp2_with fail
        refine (split_any S _).mono ?_
        rintro e w' ⟨rfl, rfl⟩
        generalize splitY S = Y at *
        generalize splitN S = N at *
        obtain ⟨T, hTT⟩ : ∃ T, T = thT rest Y := ⟨_, rfl⟩
        rw [← hTT] at HT
        have HTT := hidIt hTT
        clear hTT
        go_wp2_with fail
        refine (HTH.out Y HYS.out (some ⟨b, off + 1, none⟩) _ _ HTL.out hc2 (by unfold maxLen; omega)).mono ?_
        rintro e w2 ⟨u, rfl, hf, hb⟩
        rw [← HTT.out] at hf
        obtain ⟨a9, c9, _, _, rfl, -⟩ := hf.form
        have HF2 : Hid (FormIn w2 (fun i => w.heap.size ≤ i ∧ i ≠ w.heap.size) (.agg #[.int .i64 T.op, .string T.name, .slice a9 T.args.length c9]) T) := hf.mono fun i _ hi => by have := HR.out; exact ⟨by omega, by omega⟩
        have HB2 := hidIt (HB.out.trans (Below.mono hb HB.out.size))
        have HK2 := hidIt (blk_kept HNEW.out hb)
        clear hf hb r0 r1 r2 f0 f1 f2 hrl x1
        obtain ⟨r0, r1, r2⟩ := cell_of3 HK2.out
        obtain ⟨f0, f1, f2⟩ := cells_free HK2.out
        have hrl := lt_of_block HK2.out
        go_wp2_with fail
        refine bodyPost_ret (v := .agg #[.int .i64 T.op, .string T.name, .slice a9 T.args.length c9]) (by simp [results, Tryz.results84, go_sem, r0, r1, r2, hrl]) rfl ?_
        rw [HT.out]
        exact CPost.stored (Nat.le_refl _) HF2.out HB2.out
    · have HT : Hid (thT (x :: rest) S = choiceT x (thT rest (splitY S)) (thT rest (splitN S))) := by show _ = _; rw [thT, if_neg h0, if_neg h1, if_neg h2]
      rw [decide_eq_false h2] at hyn
      clear h0 h1 h2 hS
      have K1 := ext_cell x1
      by_cases hc1 : c = 1
      · obtain rfl := HCA.out hc1
        subst hc1
        have hall1 : (((S.toNat : Int) == ((allS 1).toNat : Int)) : Bool) = false := hall
        clear hall
        have HTL : Hid (StrsIn (w.alloc (.cells #[.int .i64 0, .string ⟨#[]⟩, .slice none 0 0] 24)) (fun _ => True) (some ⟨b, off, none⟩) []) := StrsIn.nil _
        go_enter Tryz.func84, Tryz.ntmps84
        go_wp2_with fail
        refine (all_any 1 (by omega) _).mono ?_
        rintro e w' ⟨rfl, rfl⟩
        go_wp2_with fail
        refine (split_any S _).mono ?_
        rintro e w' ⟨rfl, rfl⟩
        generalize splitY S = Y at *
        generalize splitN S = N at *
        clear r0 r1 r2 f0 f1 f2 hrl x1
        go_wp2_with fail
        generalize (w.alloc (.cells #[.int .i64 0, .string ⟨#[]⟩, .slice none 0 0] 24)) = W at *
        haveI := Ext.nonempty W
        refine wp_region_last (Ext W) Grows (relTab [(36, isForm (fun i => w.heap.size ≤ i ∧ i ≠ w.heap.size) (thT [] (Y))), (39, isForm (fun i => w.heap.size ≤ i ∧ i ≠ w.heap.size) (thT [] (N))), (40, isForm (fun i => w.heap.size ≤ i ∧ i ≠ w.heap.size) (choiceT x (thT [] (Y)) (thT [] (N))))]) _ rfl rfl (by kernel_rfl) (by kernel_rfl) (by kernel_rfl) (by kernel_rfl) (stable_cons (isForm_up _ _) (stable_cons (isForm_up _ _) (stable_cons (isForm_up _ _) (stable_nil _)))) (Ext.start W) ?_
        simp only [idleLast]
        repeat (
          refine' walkR_plain (by kernel_rfl) rfl rfl (fun wx hC hL => ?_) ?_
          rotate_left
          · (go_simp; exact ⟨rfl, rfl⟩)
          simp only [Act.put, List.setIfInBounds_toArray, List.set_cons_zero, List.set_cons_succ])
        refine walkR_rel (by kernel_rfl) rfl rfl (of_decide_eq_true (by kernel_rfl)) (fun wx hC hL => ?_) (fun v hv => ?_)
        · go_simp
          exact rel_th hC HR.out (HTH.out Y HYS.out _ _ wx (HTL.out.go hC) (by simp) (by unfold maxLen; omega))
        obtain ⟨_, _, hv⟩ := hv
        obtain ⟨_, _, _, _, rfl, -⟩ := FormIn.form hv
        clear hv
        simp only [Act.put, List.setIfInBounds_toArray, List.set_cons_zero, List.set_cons_succ]
        repeat (
          refine' walkR_plain (by kernel_rfl) rfl rfl (fun wx hC hL => ?_) ?_
          rotate_left
          · (go_simp; exact ⟨rfl, rfl⟩)
          simp only [Act.put, List.setIfInBounds_toArray, List.set_cons_zero, List.set_cons_succ])
        refine walkR_rel (by kernel_rfl) rfl rfl (of_decide_eq_true (by kernel_rfl)) (fun wx hC hL => ?_) (fun v hv => ?_)
        · go_simp
          exact rel_th hC HR.out (HTH.out N HNS.out _ _ wx (HTL.out.go hC) (by simp) (by unfold maxLen; omega))
        obtain ⟨_, _, hv⟩ := hv
        obtain ⟨_, _, _, _, rfl, -⟩ := FormIn.form hv
        clear hv
        simp only [Act.put, List.setIfInBounds_toArray, List.set_cons_zero, List.set_cons_succ]
        repeat (
          refine' walkR_plain (by kernel_rfl) rfl rfl (fun wx hC hL => ?_) ?_
          rotate_left
          · (go_simp; exact ⟨rfl, rfl⟩)
          simp only [Act.put, List.setIfInBounds_toArray, List.set_cons_zero, List.set_cons_succ])
        refine walkR_rel (by kernel_rfl) rfl rfl (of_decide_eq_true (by kernel_rfl)) (fun wx hC hL => ?_) (fun v hv => ?_)
        · go_simp
          exact rel_ch hC HR.out HXS.out (hL.get 36 (by simp [more]) (by kernel_rfl) rfl rfl) (hL.get 39 (by simp [more]) (by kernel_rfl) rfl rfl)
        obtain ⟨wz, _, hv⟩ := hv
        obtain ⟨a9, c9, _, _, rfl, -⟩ := FormIn.form hv
        clear hv
        simp only [Act.put, List.setIfInBounds_toArray, List.set_cons_zero, List.set_cons_succ]
        refine walkR_idle rfl (fun wx _ => Below.refl _ _) ?_
        refine fun w20 hE20 hK => ?_
        have hf : FormIn w20 (fun i => w.heap.size ≤ i ∧ i ≠ w.heap.size) (.agg #[.int .i64 (choiceT x (thT [] Y) (thT [] N)).op, .string (choiceT x (thT [] Y) (thT [] N)).name, .slice a9 (choiceT x (thT [] Y) (thT [] N)).args.length c9]) (choiceT x (thT [] Y) (thT [] N)) := hK 40 (by simp [more]) _ rfl
        have HF := hidIt hf
        have HB20 := hidIt (HB.out.trans (Below.mono hE20 HB.out.size))
        have HK20 := hidIt (blk_kept HNEW.out hE20)
        generalize (choiceT x (thT [] Y) (thT [] N)) = T at *
        obtain ⟨r0, r1, r2⟩ := cell_of3 HK20.out
        obtain ⟨f0, f1, f2⟩ := cells_free HK20.out
        have hrl := lt_of_block HK20.out
        clear hf hK hE20
        simp only [List.getLast_cons_cons, List.getLast_singleton]
        go_wp2_with fail
        refine bodyPost_ret (v := .agg #[.int .i64 T.op, .string T.name, .slice a9 T.args.length c9]) (by simp [results, Tryz.results84, go_sem, r0, r1, r2, hrl]) rfl ?_
        rw [HT.out]
        exact CPost.stored (Nat.le_refl _) HF.out HB20.out
      · have hc2 : rest.length ≤ c - 1 := by omega
        go_enter Tryz.func84, Tryz.ntmps84
        go_wp2_with fail
        refine (all_any (rest.length + 1) (by omega) _).mono ?_
        rintro e w' ⟨rfl, rfl⟩
        go_wp2_with fail
        refine (split_any S _).mono ?_
        rintro e w' ⟨rfl, rfl⟩
        generalize splitY S = Y at *
        generalize splitN S = N at *
        clear r0 r1 r2 f0 f1 f2 hrl x1
        go_wp2_with fail
        generalize (w.alloc (.cells #[.int .i64 0, .string ⟨#[]⟩, .slice none 0 0] 24)) = W at *
        haveI := Ext.nonempty W
        refine wp_region_last (Ext W) Grows (relTab [(36, isForm (fun i => w.heap.size ≤ i ∧ i ≠ w.heap.size) (thT rest (Y))), (39, isForm (fun i => w.heap.size ≤ i ∧ i ≠ w.heap.size) (thT rest (N))), (40, isForm (fun i => w.heap.size ≤ i ∧ i ≠ w.heap.size) (choiceT x (thT rest (Y)) (thT rest (N))))]) _ rfl rfl (by kernel_rfl) (by kernel_rfl) (by kernel_rfl) (by kernel_rfl) (stable_cons (isForm_up _ _) (stable_cons (isForm_up _ _) (stable_cons (isForm_up _ _) (stable_nil _)))) (Ext.start W) ?_
        simp only [idleLast]
        repeat (
          refine' walkR_plain (by kernel_rfl) rfl rfl (fun wx hC hL => ?_) ?_
          rotate_left
          · (go_simp; exact ⟨rfl, rfl⟩)
          simp only [Act.put, List.setIfInBounds_toArray, List.set_cons_zero, List.set_cons_succ])
        refine walkR_rel (by kernel_rfl) rfl rfl (of_decide_eq_true (by kernel_rfl)) (fun wx hC hL => ?_) (fun v hv => ?_)
        · go_simp
          exact rel_th hC HR.out (HTH.out Y HYS.out _ _ wx (HTL.out.go hC) hc2 (by unfold maxLen; omega))
        obtain ⟨_, _, hv⟩ := hv
        obtain ⟨_, _, _, _, rfl, -⟩ := FormIn.form hv
        clear hv
        simp only [Act.put, List.setIfInBounds_toArray, List.set_cons_zero, List.set_cons_succ]
        repeat (
          refine' walkR_plain (by kernel_rfl) rfl rfl (fun wx hC hL => ?_) ?_
          rotate_left
          · (go_simp; exact ⟨rfl, rfl⟩)
          simp only [Act.put, List.setIfInBounds_toArray, List.set_cons_zero, List.set_cons_succ])
        refine walkR_rel (by kernel_rfl) rfl rfl (of_decide_eq_true (by kernel_rfl)) (fun wx hC hL => ?_) (fun v hv => ?_)
        · go_simp
          exact rel_th hC HR.out (HTH.out N HNS.out _ _ wx (HTL.out.go hC) hc2 (by unfold maxLen; omega))
        obtain ⟨_, _, hv⟩ := hv
        obtain ⟨_, _, _, _, rfl, -⟩ := FormIn.form hv
        clear hv
        simp only [Act.put, List.setIfInBounds_toArray, List.set_cons_zero, List.set_cons_succ]
        repeat (
          refine' walkR_plain (by kernel_rfl) rfl rfl (fun wx hC hL => ?_) ?_
          rotate_left
          · (go_simp; exact ⟨rfl, rfl⟩)
          simp only [Act.put, List.setIfInBounds_toArray, List.set_cons_zero, List.set_cons_succ])
        refine walkR_rel (by kernel_rfl) rfl rfl (of_decide_eq_true (by kernel_rfl)) (fun wx hC hL => ?_) (fun v hv => ?_)
        · go_simp
          exact rel_ch hC HR.out HXS.out (hL.get 36 (by simp [more]) (by kernel_rfl) rfl rfl) (hL.get 39 (by simp [more]) (by kernel_rfl) rfl rfl)
        obtain ⟨wz, _, hv⟩ := hv
        obtain ⟨a9, c9, _, _, rfl, -⟩ := FormIn.form hv
        clear hv
        simp only [Act.put, List.setIfInBounds_toArray, List.set_cons_zero, List.set_cons_succ]
        refine walkR_idle rfl (fun wx _ => Below.refl _ _) ?_
        refine fun w20 hE20 hK => ?_
        have hf : FormIn w20 (fun i => w.heap.size ≤ i ∧ i ≠ w.heap.size) (.agg #[.int .i64 (choiceT x (thT rest Y) (thT rest N)).op, .string (choiceT x (thT rest Y) (thT rest N)).name, .slice a9 (choiceT x (thT rest Y) (thT rest N)).args.length c9]) (choiceT x (thT rest Y) (thT rest N)) := hK 40 (by simp [more]) _ rfl
        have HF := hidIt hf
        have HB20 := hidIt (HB.out.trans (Below.mono hE20 HB.out.size))
        have HK20 := hidIt (blk_kept HNEW.out hE20)
        generalize (choiceT x (thT rest Y) (thT rest N)) = T at *
        obtain ⟨r0, r1, r2⟩ := cell_of3 HK20.out
        obtain ⟨f0, f1, f2⟩ := cells_free HK20.out
        have hrl := lt_of_block HK20.out
        clear hf hK hE20
        simp only [List.getLast_cons_cons, List.getLast_singleton]
        go_wp2_with fail
        refine bodyPost_ret (v := .agg #[.int .i64 T.op, .string T.name, .slice a9 T.args.length c9]) (by simp [results, Tryz.results84, go_sem, r0, r1, r2, hrl]) rfl ?_
        rw [HT.out]
        exact CPost.stored (Nat.le_refl _) HF.out HB20.out
end Go.Proofs.YtilkpjcbmllgmaaGreatDoor

namespace Go.Proofs.YtilkpjcbmllgmaaGreatDoor
set_option linter.unusedVariables false
set_option linter.unusedSimpArgs false
open Go Go.RowKit

/-- What Theory answers. -/
def thR (voc : List ByteArray) (S : BitVec 64) : Tree := if vocB voc = true then thT voc (S &&& allS voc.length) else .node 0 ⟨#[]⟩ []
def thE (voc : List ByteArray) : Int := if vocB voc = true then 0 else 1

/-- A formula and an error. -/
def TPost (T : Tree) (E : Int) (w : World) (e : Ending) (w' : World) : Prop := ∃ (o : Int) (s : ByteArray) (a : Option Addr) (n c : Nat), e = .returned (.tuple #[.agg #[.int .i64 o, .string s, .slice a n c], .int .i64 E]) ∧
  FormIn w' (fun i => w.heap.size ≤ i) (.agg #[.int .i64 o, .string s, .slice a n c]) T ∧ Below w.heap.size w w'

set_option maxRecDepth 100000 in
set_option maxHeartbeats 1000000 in
theorem wTheory_any (voc : List ByteArray) (S : BitVec 64) (a : Option Addr) (c : Nat) (hvn : voc.length ≤ 1000000) (hlc : voc.length ≤ c) (hcm : c ≤ maxLen) (w : World) (h : StrsIn w (fun _ => True) a voc) :
    Calls Tryz.prog 43 #[.slice a voc.length c, bv S] w (TPost (thR voc S) (thE voc) w) := by
  have HNEW := hidIt (heap_alloc_new w (.cells #[.int .i64 0, .string ⟨#[]⟩, .slice none 0 0] 24))
  have HB : Hid (Below w.heap.size w (w.alloc (.cells #[.int .i64 0, .string ⟨#[]⟩, .slice none 0 0] 24))) := Grows.alloc _ _
  have HR0 : Hid (w.heap.size < (w.alloc (.cells #[.int .i64 0, .string ⟨#[]⟩, .slice none 0 0] 24)).heap.size) := by show _ < _; simp
  have HS := hidIt (h.go HB.out)
  have HCM := hidIt hcm
  have HLC := hidIt hlc
  obtain ⟨r0, r1, r2⟩ := cell_of3 HNEW.out
  obtain ⟨f0, f1, f2⟩ := cells_free HNEW.out
  have hrl := lt_of_block HNEW.out
  clear h hcm
  by_cases hv : vocB voc = true
  · have hv6 : voc.length ≤ 6 := by
      unfold vocB at hv
      rw [Bool.and_eq_true, decide_eq_true_eq] at hv
      exact hv.1
    have HT : Hid (thR voc S = thT voc (S &&& allS voc.length)) := by show _ = _; rw [thR, if_pos hv]
    have HE : Hid (thE voc = 0) := by show _ = _; rw [thE, if_pos hv]
    have HV := hidIt hv
    have HTH := hidIt (theory_any voc hv6 _ (inS_all voc.length S))
    have HAND := hidIt (bits_and_bv S (allS voc.length))
    have hv6' : (voc.length : Int) ≤ 6 := by omega
    clear hv
    go_enter Tryz.func43, Tryz.ntmps43
    go_wp2_with fail
    refine (wvalid_any voc a c hvn _ HS.out).mono ?_
    rintro e w' ⟨rfl, rfl⟩
    rw [HV.out]
    go_wp2_with fail
    refine (all_any voc.length hv6 _).mono ?_
    rintro e w' ⟨rfl, rfl⟩
    go_wp2_with fail
    rw [HAND.out]
    refine (HTH.out a c _ HS.out HLC.out HCM.out).mono ?_
    rintro e w2 ⟨u, rfl, hf, hb⟩
    rw [← HT.out] at hf
    obtain ⟨a9, c9, _, _, rfl, -⟩ := hf.form
    have HF2 : Hid (FormIn w2 (fun i => w.heap.size ≤ i ∧ i ≠ w.heap.size) (.agg #[.int .i64 (thR voc S).op, .string (thR voc S).name, .slice a9 (thR voc S).args.length c9]) (thR voc S)) := hf.mono fun i _ hi => by have := HR0.out; exact ⟨by omega, by omega⟩
    have HB2 := hidIt (HB.out.trans (Below.mono hb HB.out.size))
    have HK2 := hidIt (blk_kept HNEW.out hb)
    clear hf hb r0 r1 r2 f0 f1 f2 hrl
    generalize thR voc S = T at *
    obtain ⟨r0, r1, r2⟩ := cell_of3 HK2.out
    obtain ⟨f0, f1, f2⟩ := cells_free HK2.out
    have hrl := lt_of_block HK2.out
    go_wp2_with fail
    refine bodyPost_ret (v := .tuple #[.agg #[.int .i64 T.op, .string T.name, .slice a9 T.args.length c9], .int .i64 0]) (by simp [results, Tryz.results43, go_sem, r0, r1, r2, hrl]) rfl ?_
    rw [HE.out]
    obtain ⟨u', hu, hf', hb'⟩ := CPost.stored (Nat.le_refl _) HF2.out HB2.out
    injection hu with hu
    subst hu
    exact ⟨_, _, _, _, _, rfl, hf', hb'⟩
  · have hv' : vocB voc = false := by simpa using hv
    have HT : Hid (thR voc S = .node 0 ⟨#[]⟩ []) := by show _ = _; rw [thR, if_neg hv]
    have HE : Hid (thE voc = 1) := by show _ = _; rw [thE, if_neg hv]
    have HV := hidIt hv'
    clear hv hv'
    go_enter Tryz.func43, Tryz.ntmps43
    go_wp2_with fail
    refine (wvalid_any voc a c hvn _ HS.out).mono ?_
    rintro e w' ⟨rfl, rfl⟩
    rw [HV.out]
    go_wp2_with fail
    refine bodyPost_ret (v := .tuple #[.agg #[.int .i64 0, .string ⟨#[]⟩, .slice none 0 0], .int .i64 1]) (by simp [results, Tryz.results43, go_sem, r0, r1, r2, hrl]) rfl ?_
    rw [HT.out, HE.out]
    exact ⟨_, _, _, _, _, rfl, FormIn.mk (op := 0) (FormsIn.nil none) rfl (by unfold I64; omega) nil_le (Nat.le_refl _) (Nat.zero_le _), Grows.alloc _ _⟩
end Go.Proofs.YtilkpjcbmllgmaaGreatDoor

namespace Go.Proofs.YtilkpjcbmllgmaaGreatDoor
set_option linter.unusedVariables false
set_option linter.unusedSimpArgs false
open Go Go.RowKit

/-- What Entails answers. -/
def entE (voc : List ByteArray) (f g : Tree) : Int := if modE voc f = 0 then modE voc g else modE voc f
def entB (voc : List ByteArray) (f g : Tree) : Bool := if entE voc f g = 0 then decide (modS voc f &&& ~~~(modS voc g) = 0#64) else false

theorem ret_be {k2 : IntKind} {a b : Bool} {c d : Int} (h : a = b) (k : c = d) : Ending.returned (.tuple #[.bool a, .int k2 c]) = .returned (.tuple #[.bool b, .int k2 d]) := by rw [h, k]

set_option maxRecDepth 100000 in
set_option maxHeartbeats 1000000 in
theorem entails_any (voc : List ByteArray) (va : Option Addr) (vc : Nat) (hvn : voc.length ≤ 1000000) (f g : Tree) (vf vg : Value) (w : World) (hf : FormAt w none vf f) (hg : FormAt w none vg g) (hs : StrsIn w (fun _ => True) va voc) :
    Calls Tryz.prog 41 #[.slice va voc.length vc, vf, vg] w fun e w' => e = .returned (.tuple #[.bool (entB voc f g), .int .i64 (entE voc f g)]) ∧ Below w.heap.size w w' := by
  obtain ⟨fa, fc, fb, fo, rfl, -, -, -, -, -, -⟩ := hf.form
  obtain ⟨ga, gc, gb, go, rfl, -, -, -, -, -, -⟩ := hg.form
  have hb0 : Below w.heap.size w ((w.alloc (.cells #[.int .i64 f.op, .string f.name, .slice fa f.args.length fc] 24)).alloc (.cells #[.int .i64 g.op, .string g.name, .slice ga g.args.length gc] 24)) := ((Below.refl _ _).alloc (Nat.le_refl _) _).alloc (by simp) _
  have HB0 := hidIt hb0
  have HF := hidIt (hf.go hb0)
  have HG := hidIt (hg.go hb0)
  have HS := hidIt (hs.go hb0)
  have HK : Hid (((w.alloc (.cells #[.int .i64 f.op, .string f.name, .slice fa f.args.length fc] 24)).alloc (.cells #[.int .i64 g.op, .string g.name, .slice ga g.args.length gc] 24)).heap[w.heap.size + 1]? = some (.cells #[.int .i64 g.op, .string g.name, .slice ga g.args.length gc] 24 (0, 0))) := heap_alloc_at (by simp)
  have HMF := hidIt (wModels_any voc va vc hvn f)
  have HMG := hidIt (wModels_any voc va vc hvn g)
  have HENT : Hid (entE voc f g = if modE voc f = 0 then modE voc g else modE voc f) := rfl
  have HENB : Hid (entB voc f g = if entE voc f g = 0 then decide (modS voc f &&& ~~~(modS voc g) = 0#64) else false) := rfl
  clear hf hg hs hb0
  generalize modS voc f = A at *
  generalize modS voc g = B at *
  generalize modE voc f = ea at *
  generalize modE voc g = eb at *
  generalize entE voc f g = ee at *
  generalize entB voc f g = bb at *
  go_enter Tryz.func41, Tryz.ntmps41
  go_wp2_with fail
  refine (HMF.out _ _ HF.out HS.out).mono ?_
  rintro e w1 ⟨rfl, hb1⟩
  have HB1 := hidIt (HB0.out.trans (Below.mono hb1 HB0.out.size))
  have HK1 := hidIt (blk_kept HK.out hb1)
  have HG1 := hidIt (HG.out.go hb1)
  have HS1 := hidIt (HS.out.go hb1)
  obtain ⟨p0, p1, p2⟩ := cell_of3 HK1.out
  have hpl := lt_of_block HK1.out
  clear hb1 HB0 HK HF HG HS
  by_cases h1 : ea = 0
  · have hE : Hid (ee = eb) := by show _ = _; rw [HENT.out, if_pos h1]
    have h1' : ((ea != 0) : Bool) = false := by simp [h1]
    go_wp2_with fail
    refine (HMG.out _ _ HG1.out HS1.out).mono ?_
    rintro e w2 ⟨rfl, hb2⟩
    have HB2 := hidIt (HB1.out.trans (Below.mono hb2 HB1.out.size))
    clear hb2
    by_cases h2 : eb = 0
    · have h2' : ((eb != 0) : Bool) = false := by simp [h2]
      have hB : Hid (bb = decide (A &&& ~~~B = 0#64)) := by show _ = _; rw [HENB.out, hE.out, if_pos h2]
      have hz : Hid (((((A &&& ~~~B).toNat : Int) == 0) : Bool) = decide (A &&& ~~~B = 0#64)) := eq_bv (A &&& ~~~B) 0#64
      go_wp2_with fail
      go_ret2
      exact ⟨ret_be (by rw [hB.out, ← hz.out, bits_andNot_bv]) (by rw [hE.out, h2]), HB2.out⟩
    · have h2' : ((eb != 0) : Bool) = true := by simp [h2]
      have hB : Hid (bb = false) := by show _ = _; rw [HENB.out, hE.out, if_neg h2]
      go_wp2_with fail
      go_ret2
      exact ⟨ret_be hB.out.symm hE.out.symm, HB2.out⟩
  · have hE : Hid (ee = ea) := by show _ = _; rw [HENT.out, if_neg h1]
    have hB : Hid (bb = false) := by show _ = _; rw [HENB.out, hE.out, if_neg h1]
    have h1' : ((ea != 0) : Bool) = true := by simp [h1]
    go_wp2_with fail
    go_ret2
    exact ⟨ret_be hB.out.symm hE.out.symm, HB1.out⟩
end Go.Proofs.YtilkpjcbmllgmaaGreatDoor

namespace Go.Proofs.YtilkpjcbmllgmaaGreatDoor
set_option linter.unusedVariables false
set_option linter.unusedSimpArgs false
open Go Go.RowKit

/-- The worlds that differ from one of the set at most in the atom number i. -/
def forgetI (A : BitVec 64) (i : Nat) : BitVec 64 := A ||| ((A &&& wset (wI i)) >>> (2 ^ i)) ||| ((A &&& ~~~(wset (wI i))) <<< (2 ^ i))
/-- What Forget answers at a vocabulary. -/
def forgetS (voc : List ByteArray) (S : BitVec 64) (s : ByteArray) : BitVec 64 := if inB voc s = true then forgetI (S &&& allS voc.length) (idxB voc s) else S &&& allS voc.length

theorem forgetI_zero (i : Nat) : forgetI 0#64 i = 0#64 := by simp [forgetI]

theorem shr_bv (S : BitVec 64) (m : Nat) : ((S.toNat : Int) / 2 ^ m) = ((S >>> m).toNat : Int) := by
  rw [BitVec.toNat_ushiftRight, Nat.shiftRight_eq_div_pow]
  simp
theorem shl_bv (S : BitVec 64) (m : Nat) : IntKind.u64.wrap ((S.toNat : Int) * 2 ^ m) = ((S <<< m).toNat : Int) := by
  rw [BitVec.toNat_shiftLeft, IntKind.wrap_u64, Nat.shiftLeft_eq]
  simp

set_option maxRecDepth 100000 in
set_option maxHeartbeats 4000000 in
theorem forget_any (voc : List ByteArray) (hv : vocB voc = true) (S : BitVec 64) (s : ByteArray) (a : Option Addr) (c : Nat) (w : World) {Sp : Nat → Prop} (h : StrsIn w Sp a voc) :
    Calls Tryz.prog 36 #[.slice a voc.length c, bv S, .string s] w fun e w' => e = .returned (bv (forgetS voc S s)) ∧ Below w.heap.size w w' := by
  have H := hidIt h
  have hv6 : voc.length ≤ 6 := by
    unfold vocB at hv
    rw [Bool.and_eq_true, decide_eq_true_eq] at hv
    exact hv.1
  have HV := hidIt hv
  have HAND := hidIt (bits_and_bv S (allS voc.length))
  clear h hv
  by_cases hin : inB voc s = true
  · have hidx : idxB voc s < 6 := by
      have : idxB voc s < voc.length := by
        unfold idxB
        rw [List.findIdx_lt_length]
        exact ⟨s, inB_mem.1 hin, by simp⟩
      omega
    have HT : Hid (forgetS voc S s = forgetI (S &&& allS voc.length) (idxB voc s)) := by show _ = _; rw [forgetS, if_pos hin]
    have HI : Hid (indexI voc s = (idxB voc s : Int)) := by show _ = _; unfold indexI; rw [if_pos hin]
    have HIDX := hidIt (indexS_any voc s a c (by omega) w H.out)
    have HALL := hidIt (wAll_any voc HV.out a c hv6 w H.out)
    rw [HI.out] at HIDX
    clear hin HI
    generalize hA : S &&& allS voc.length = A at *
    clear hA
    generalize allS voc.length = L at *
    generalize idxB voc s = i at *
    by_cases h0 : A = 0#64
    · have hz := eq_bv A 0#64
      have he0 : ((0#64).toNat : Int) = 0 := rfl
      rw [he0, decide_eq_true h0] at hz
      have HT0 : Hid (forgetS voc S s = A) := by show _ = _; rw [HT.out, h0, forgetI_zero]
      have hi0 : (0 : Int) ≤ (i : Int) := by omega
      clear h0 he0 HT
      go_enter Tryz.func36, Tryz.ntmps36
      go_wp2_with fail
      refine HALL.out.mono ?_
      rintro e w' ⟨rfl, rfl⟩
      go_wp2_with fail
      rw [HAND.out]
      refine HIDX.out.mono ?_
      rintro e w' ⟨rfl, rfl⟩
      go_wp2_with fail
      go_ret
      exact ⟨ret_u64 (by rw [HT0.out]), Below.refl _ _⟩
    · have hz := eq_bv A 0#64
      have he0 : ((0#64).toNat : Int) = 0 := rfl
      rw [he0, decide_eq_false h0] at hz
      have hi0 : (0 : Int) ≤ (i : Int) := by omega
      have HW := hidIt (where_any i hidx)
      have HY := hidIt (bits_and_bv A (wset (wI i)))
      have HN := hidIt (bits_andNot_bv A (wset (wI i)))
      have HD : Hid (forgetI A i = A ||| ((A &&& wset (wI i)) >>> (2 ^ i)) ||| ((A &&& ~~~(wset (wI i))) <<< (2 ^ i))) := rfl
      clear h0 he0
      generalize forgetI A i = R at *
      generalize hY : A &&& wset (wI i) = Y at *
      generalize hN : A &&& ~~~(wset (wI i)) = N at *
      generalize wset (wI i) = WI at *
      clear hY hN
      have h6 : i = 0 ∨ i = 1 ∨ i = 2 ∨ i = 3 ∨ i = 4 ∨ i = 5 := by omega
      rcases h6 with rfl | rfl | rfl | rfl | rfl | rfl
      · go_enter Tryz.func36, Tryz.ntmps36
        go_wp2_with fail
        refine HALL.out.mono ?_
        rintro e w' ⟨rfl, rfl⟩
        go_wp2_with fail
        rw [HAND.out]
        refine HIDX.out.mono ?_
        rintro e w' ⟨rfl, rfl⟩
        go_wp2_with fail
        refine (HW.out _).mono ?_
        rintro e w' ⟨rfl, rfl⟩
        go_wp2_with fail
        refine (HW.out _).mono ?_
        rintro e w' ⟨rfl, rfl⟩
        go_wp2_with fail
        go_quiet (fail)
        go_wp2_with fail
        go_ret
        have hD := HD.out
        have hy := shr_bv Y (2 ^ 0)
        have hn := shl_bv N (2 ^ 0)
        simp only [Nat.reducePow, Int.reducePow] at hD hy hn
        exact ⟨ret_u64 (by rw [HY.out, HN.out, hy, hn, bits_or_bv, bits_or_bv, HT.out, hD]), rfl, rfl, rfl, Nat.le_refl _, fun _ _ => rfl⟩
      · go_enter Tryz.func36, Tryz.ntmps36
        go_wp2_with fail
        refine HALL.out.mono ?_
        rintro e w' ⟨rfl, rfl⟩
        go_wp2_with fail
        rw [HAND.out]
        refine HIDX.out.mono ?_
        rintro e w' ⟨rfl, rfl⟩
        go_wp2_with fail
        refine (HW.out _).mono ?_
        rintro e w' ⟨rfl, rfl⟩
        go_wp2_with fail
        refine (HW.out _).mono ?_
        rintro e w' ⟨rfl, rfl⟩
        go_wp2_with fail
        go_quiet (fail)
        go_wp2_with fail
        go_ret
        have hD := HD.out
        have hy := shr_bv Y (2 ^ 1)
        have hn := shl_bv N (2 ^ 1)
        simp only [Nat.reducePow, Int.reducePow] at hD hy hn
        exact ⟨ret_u64 (by rw [HY.out, HN.out, hy, hn, bits_or_bv, bits_or_bv, HT.out, hD]), rfl, rfl, rfl, Nat.le_refl _, fun _ _ => rfl⟩
      · go_enter Tryz.func36, Tryz.ntmps36
        go_wp2_with fail
        refine HALL.out.mono ?_
        rintro e w' ⟨rfl, rfl⟩
        go_wp2_with fail
        rw [HAND.out]
        refine HIDX.out.mono ?_
        rintro e w' ⟨rfl, rfl⟩
        go_wp2_with fail
        refine (HW.out _).mono ?_
        rintro e w' ⟨rfl, rfl⟩
        go_wp2_with fail
        refine (HW.out _).mono ?_
        rintro e w' ⟨rfl, rfl⟩
        go_wp2_with fail
        go_quiet (fail)
        go_wp2_with fail
        go_ret
        have hD := HD.out
        have hy := shr_bv Y (2 ^ 2)
        have hn := shl_bv N (2 ^ 2)
        simp only [Nat.reducePow, Int.reducePow] at hD hy hn
        exact ⟨ret_u64 (by rw [HY.out, HN.out, hy, hn, bits_or_bv, bits_or_bv, HT.out, hD]), rfl, rfl, rfl, Nat.le_refl _, fun _ _ => rfl⟩
      · go_enter Tryz.func36, Tryz.ntmps36
        go_wp2_with fail
        refine HALL.out.mono ?_
        rintro e w' ⟨rfl, rfl⟩
        go_wp2_with fail
        rw [HAND.out]
        refine HIDX.out.mono ?_
        rintro e w' ⟨rfl, rfl⟩
        go_wp2_with fail
        refine (HW.out _).mono ?_
        rintro e w' ⟨rfl, rfl⟩
        go_wp2_with fail
        refine (HW.out _).mono ?_
        rintro e w' ⟨rfl, rfl⟩
        go_wp2_with fail
        go_quiet (fail)
        go_wp2_with fail
        go_ret
        have hD := HD.out
        have hy := shr_bv Y (2 ^ 3)
        have hn := shl_bv N (2 ^ 3)
        simp only [Nat.reducePow, Int.reducePow] at hD hy hn
        exact ⟨ret_u64 (by rw [HY.out, HN.out, hy, hn, bits_or_bv, bits_or_bv, HT.out, hD]), rfl, rfl, rfl, Nat.le_refl _, fun _ _ => rfl⟩
      · go_enter Tryz.func36, Tryz.ntmps36
        go_wp2_with fail
        refine HALL.out.mono ?_
        rintro e w' ⟨rfl, rfl⟩
        go_wp2_with fail
        rw [HAND.out]
        refine HIDX.out.mono ?_
        rintro e w' ⟨rfl, rfl⟩
        go_wp2_with fail
        refine (HW.out _).mono ?_
        rintro e w' ⟨rfl, rfl⟩
        go_wp2_with fail
        refine (HW.out _).mono ?_
        rintro e w' ⟨rfl, rfl⟩
        go_wp2_with fail
        go_quiet (fail)
        go_wp2_with fail
        go_ret
        have hD := HD.out
        have hy := shr_bv Y (2 ^ 4)
        have hn := shl_bv N (2 ^ 4)
        simp only [Nat.reducePow, Int.reducePow] at hD hy hn
        exact ⟨ret_u64 (by rw [HY.out, HN.out, hy, hn, bits_or_bv, bits_or_bv, HT.out, hD]), rfl, rfl, rfl, Nat.le_refl _, fun _ _ => rfl⟩
      · go_enter Tryz.func36, Tryz.ntmps36
        go_wp2_with fail
        refine HALL.out.mono ?_
        rintro e w' ⟨rfl, rfl⟩
        go_wp2_with fail
        rw [HAND.out]
        refine HIDX.out.mono ?_
        rintro e w' ⟨rfl, rfl⟩
        go_wp2_with fail
        refine (HW.out _).mono ?_
        rintro e w' ⟨rfl, rfl⟩
        go_wp2_with fail
        refine (HW.out _).mono ?_
        rintro e w' ⟨rfl, rfl⟩
        go_wp2_with fail
        go_quiet (fail)
        go_wp2_with fail
        go_ret
        have hD := HD.out
        have hy := shr_bv Y (2 ^ 5)
        have hn := shl_bv N (2 ^ 5)
        simp only [Nat.reducePow, Int.reducePow] at hD hy hn
        exact ⟨ret_u64 (by rw [HY.out, HN.out, hy, hn, bits_or_bv, bits_or_bv, HT.out, hD]), rfl, rfl, rfl, Nat.le_refl _, fun _ _ => rfl⟩
  · have hin' : inB voc s = false := by simpa using hin
    have HT : Hid (forgetS voc S s = S &&& allS voc.length) := by show _ = _; rw [forgetS, if_neg hin]
    have HI : Hid (indexI voc s = -1) := by show _ = _; unfold indexI; rw [hin']; rfl
    have HIDX := hidIt (indexS_any voc s a c (by omega) w H.out)
    have HALL := hidIt (wAll_any voc HV.out a c hv6 w H.out)
    rw [HI.out] at HIDX
    clear hin hin' HI
    go_enter Tryz.func36, Tryz.ntmps36
    go_wp2_with fail
    refine HALL.out.mono ?_
    rintro e w' ⟨rfl, rfl⟩
    go_wp2_with fail
    rw [HAND.out]
    refine HIDX.out.mono ?_
    rintro e w' ⟨rfl, rfl⟩
    go_wp2_with fail
    go_ret
    exact ⟨ret_u64 (by rw [HT.out, BitVec.toNat_and]), Below.refl _ _⟩

set_option maxHeartbeats 1000000 in
theorem size13 (w : World) : Calls Tryz.prog 34 #[.int .u64 13] w fun e w' => e = .returned (.int .i64 3) ∧ Below w.heap.size w w' := by
  have h : Calls Tryz.prog 75 #[.int .u64 13] w fun e w' => e = .returned (.int .i64 3) ∧ w' = w := by
    go_enter Tryz.func75, Tryz.ntmps75
    go_wp2
    go_ret
    refine ⟨ret_i64 ?_, rfl⟩
    decide +kernel
  have H := hidIt h
  clear h
  go_enter Tryz.func34, Tryz.ntmps34
  go_wp2_with fail
  refine H.out.mono ?_
  rintro e w' ⟨rfl, rfl⟩
  go_wp2_with fail
  go_ret
  exact ⟨rfl, Below.refl _ _⟩
end Go.Proofs.YtilkpjcbmllgmaaGreatDoor

namespace Go.Proofs.YtilkpjcbmllgmaaGreatDoor
set_option linter.unusedVariables false
set_option linter.unusedSimpArgs false
open Go Go.RowKit

/-- The vocabulary of n letters. -/
def vocL (n : Nat) : List ByteArray := (List.range n).map letter
theorem vocL_len (n : Nat) : (vocL n).length = n := by simp [vocL]
theorem vocL_succ (n : Nat) : vocL (n + 1) = vocL n ++ [letter n] := by simp [vocL, List.range_succ]
theorem vocL_mem {n m : Nat} (h : m < n) : letter m ∈ vocL n := List.mem_map.2 ⟨m, List.mem_range.2 h, rfl⟩
theorem vocL_F : ∀ n : Fin 7, vocB (vocL n.val) = true := by decide +kernel
theorem vocL_B (n : Nat) (h : n ≤ 6) : vocB (vocL n) = true := vocL_F ⟨n, by omega⟩

set_option maxRecDepth 100000 in
set_option maxHeartbeats 2000000 in
theorem voc_any (n : Nat) (hn : n ≤ 26) (w : World) :
    Calls Tryz.prog 23 #[.int .i64 (n : Int)] w fun e w' => ∃ (a : Option Addr) (c : Nat), e = .returned (.slice a n c) ∧ n ≤ c ∧ c ≤ maxLen ∧ StrsIn w' (fun k => w.heap.size ≤ k) a (vocL n) ∧ Below w.heap.size w w' := by
  go_enter Tryz.func23, Tryz.ntmps23
  go_wp2_with fail
  go_loopw [3, 4] (fun v i wr => ∃ k : Nat, i = .int .i64 k ∧ k ≤ n ∧ Hid (OwnS wr w.heap.size v (vocL k)) ∧ Hid (Below w.heap.size w wr)) (fun _ i _ => n - (intOf i).toNat)
  case atStart => exact ⟨0, rfl, by omega, OwnS.nil _ _, Below.refl _ _⟩
  case round =>
    obtain ⟨k, rfl, hk, hown, hbel⟩ := hrel
    by_cases hlt2 : k < n
    · have HV := hidIt (vocL_succ k)
      have hlk := vocL_len k
      have hcv := conv_letter k (by omega) wr (97 + (k : Int)) rfl
      have hbw : w.heap.size ≤ ((wr.alloc (.cells #[.int .u8 (97 + (k : Int))] 5)).alloc (.cells #[.string (letter k)] 9)).heap.size := by have := hbel.out.size; simp; omega
      have HNW := hidIt (heap_alloc_at (w := wr.alloc (.cells #[.int .u8 (97 + (k : Int))] 5)) (o := .cells #[.string (letter k)] 9) (n := wr.heap.size + 1) (by simp))
      have HO3 := hidIt ((hown.out.alloc (.cells #[.int .u8 (97 + (k : Int))] 5)).alloc (.cells #[.string (letter k)] 9))
      have HBW := hidIt hbw
      have HOB := hidIt hown.out.block
      have HLK : Hid ((vocL k).length ≤ 1000000) := by show _ ≤ _; omega
      clear hbw hlk
      go_wp2_with (at_builtin; refine wpList_append_str rfl _ _ rfl w.heap.size _ (vocL k) rfl HO3.out _ 1 rfl HNW.out (by rw [letter_size]; unfold maxLen; omega) HLK.out HBW.out ?_)
      intro v' w3 ho3 hg3
      have HO4 : Hid (OwnS w3 w.heap.size v' (vocL (k + 1))) := by show OwnS _ _ _ _; rw [HV.out]; exact ho3
      have HB3 : Hid (Below w.heap.size w w3) := below_over2 hbel.out ((Grows.alloc wr _).trans (Below.mono (Grows.alloc _ _) (by simp))) hg3 (fun g e => (HOB.out g e).1)
      clear ho3 hg3 hcv
      go_wp2_with fail
      go_roundw
      case rel => exact ⟨k + 1, by go_num, by omega, HO4, HB3⟩
      case measure => simp [intOf]; omega
    · obtain rfl : k = n := by omega
      obtain ⟨a, c, rfl, hlc, hcm, hs⟩ := hown.out.form
      rw [vocL_len] at hlc ⊢
      go_wp2_with fail
      go_ret
      exact ⟨a, c, rfl, hlc, hcm, hs, hbel.out⟩

/-- A formula that is well-formed, small, with letters of the first n as atoms. -/
structure GoodF (n : Nat) (t : Tree) : Prop where
  val : valE t = 0
  over : overB (vocL n) t = true

theorem keys_gen {n : Nat} : ∀ t : Tree, t.all (nodeG n) = true → ∀ s, (3, s, 0) ∈ keysT t → ∃ m, m < n ∧ s = letter m := by
  refine Tree.ind fun op name ts ih h s hs => ?_
  obtain ⟨h1, h2⟩ := all_self h
  rw [keysT, List.mem_cons] at hs
  rcases hs with e | hs
  · injection e with e1 e2
    injection e2 with e2 e3
    obtain ⟨m, hm, hmn⟩ := nodeG_atom h1 e1.symm
    exact ⟨m, hm, by rw [e2]; exact hmn⟩
  · have key : ∀ l : List Tree, (∀ t ∈ l, t ∈ ts) → (3, s, 0) ∈ keysL l → ∃ t ∈ l, (3, s, 0) ∈ keysT t := by
      intro l
      induction l with
      | nil => intro _ h; simp [keysL] at h
      | cons t l ih2 =>
        intro hl h
        rw [keysL, List.mem_append] at h
        rcases h with h | h
        · exact ⟨t, by simp, h⟩
        · obtain ⟨u, hu, hk⟩ := ih2 (fun t ht => hl t (by simp [ht])) h
          exact ⟨u, by simp [hu], hk⟩
    obtain ⟨t, ht, hk⟩ := key ts (fun _ h => h) hs
    exact ih t ht (allL_mem h2 t ht) s hk

theorem over_gen {n : Nat} {t : Tree} (h : ∀ s, (3, s, 0) ∈ keysT t → ∃ m, m < n ∧ s = letter m) : overB (vocL n) t = true :=
  List.all_eq_true.2 fun s hs => by
    obtain ⟨m, hm, rfl⟩ := h s (mem_atomKs.1 ((mem_ascOf s _).1 hs))
    exact inB_mem.2 (vocL_mem hm)

theorem valE_of {t : Tree} (h1 : t.nodes ≤ 600) (h2 : t.depth ≤ 20) (h3 : t.all kindB = true) (h4 : t.all nameB = true) : valE t = 0 := by
  unfold valE
  have : fitsAt 0 0 t = true := by simp [fitsAt]; omega
  simp [this, h3, h4]

theorem goodF_gen {n d : Nat} {t : Tree} (h : t.all (nodeG n) = true) (hd : t.depth ≤ d) (hd4 : d ≤ 5) : GoodF n t :=
  ⟨valE_of (Nat.le_trans (gen_nodes t d h hd) (Nat.le_trans (maxNodes_le hd4) (by decide))) (by omega) (all_imp (fun t => nodeG_kind) t h) (all_imp (fun t => nodeG_name) t h), over_gen (keys_gen t h)⟩

theorem GoodF.modE {n : Nat} (hn : n ≤ 6) {t : Tree} (h : GoodF n t) : modE (vocL n) t = 0 := modE_ok (vocL_B n hn) h.val h.over
theorem GoodF.modS {n : Nat} (hn : n ≤ 6) {t : Tree} (h : GoodF n t) : modS (vocL n) t = modelsV (vocL n) t &&& allS n := by
  rw [modS_ok (h.modE hn), vocL_len]

/-- The models, over the vocabulary of n letters. -/
def modM (n : Nat) (t : Tree) : BitVec 64 := modelsV (vocL n) t &&& allS n

/-- Models at a valid formula. -/
theorem mod_at {n : Nat} (hn : n ≤ 6) {t : Tree} (h : GoodF n t) {va : Option Addr} (vc : Nat) {v : Value} {w : World} {S : Nat → Prop} (hv : FormAt w none v t) (hs : StrsIn w S va (vocL n)) :
    Calls Tryz.prog 39 #[.slice va n vc, v] w fun e w' => e = .returned (.tuple #[bv (modM n t), .int .i64 0]) ∧ Below w.heap.size w w' := by
  have h1 := wModels_any (vocL n) va vc (by rw [vocL_len]; omega) t v w hv (hs.mono fun _ _ _ => trivial)
  rw [vocL_len, h.modE hn, h.modS hn] at h1
  exact h1
end Go.Proofs.YtilkpjcbmllgmaaGreatDoor

namespace Go.Proofs.YtilkpjcbmllgmaaGreatDoor
set_option linter.unusedVariables false
set_option linter.unusedSimpArgs false
open Go Go.RowKit

def pqL : List ByteArray := [⟨#[112]⟩, ⟨#[113]⟩]
def pqT : Tree := .node 7 ⟨#[]⟩ [.node 3 ⟨#[112]⟩ [], .node 3 ⟨#[113]⟩ []]
def thQ : Tree := .node 6 ⟨#[]⟩ [.node 4 ⟨#[]⟩ [.node 3 ⟨#[112]⟩ []], .node 3 ⟨#[113]⟩ []]
theorem pq1 : parseT ⟨#[112, 32, 45, 62, 32, 113]⟩ = (pqT, 0, 0) := by kernel_rfl
theorem pq2 : modE pqL pqT = 0 := by kernel_rfl
theorem pq3 : (modS pqL pqT).toNat = 13 := by kernel_rfl
theorem pq4 : thR pqL 13#64 = thQ := by kernel_rfl
theorem pq5 : thE pqL = 0 := by kernel_rfl
theorem pq6 : fmtT thQ = ⟨#[126, 112, 32, 124, 32, 113]⟩ := by kernel_rfl
theorem pq7 : fmtI thQ = 0 := by kernel_rfl
theorem pq8 : (forgetS pqL 8#64 ⟨#[113]⟩).toNat = 10 := by kernel_rfl
theorem pq9 : (allS 2).toNat = 15 := by kernel_rfl
theorem pq0 : vocB pqL = true := by kernel_rfl

theorem strs_two {w : World} {nb : Nat} {x y : ByteArray} {ty : TypeId} (h : w.heap[nb]? = some (.cells #[.string x, .string y] ty (0, 0))) (hx : x.size ≤ maxLen) (hy : y.size ≤ maxLen) : StrsIn w (fun _ => True) (some ⟨nb, 0, none⟩) [x, y] := by
  refine ⟨nb, 0, fun _ => ⟨rfl, trivial⟩, fun i hi => ?_⟩
  have h2 : i = 0 ∨ i = 1 := by simp at hi; omega
  rcases h2 with rfl | rfl
  · exact ⟨by simp [World.cell?, h], hx⟩
  · exact ⟨by simp [World.cell?, h], hy⟩

theorem ex_models (a : Option Addr) (c : Nat) (v : Value) (w : World) (h : FormAt w none v pqT) (hs : StrsIn w (fun _ => True) a pqL) :
    Calls Tryz.prog 39 #[.slice a 2 c, v] w fun e w' => e = .returned (.tuple #[.int .u64 13, .int .i64 0]) ∧ Below w.heap.size w w' :=
  (wModels_any pqL a c (by decide) pqT v w h hs).mono fun e w' ⟨he, hb⟩ => ⟨by rw [he, pq2, bv, pq3]; rfl, hb⟩
theorem ex_theory (a : Option Addr) (c : Nat) (hc : 2 ≤ c) (hc' : c ≤ maxLen) (w : World) (hs : StrsIn w (fun _ => True) a pqL) :
    Calls Tryz.prog 43 #[.slice a 2 c, .int .u64 13] w fun e w' => ∃ (a : Option Addr) (c : Nat), e = .returned (.tuple #[.agg #[.int .i64 6, .string ⟨#[]⟩, .slice a 2 c], .int .i64 0]) ∧ FormAt w' none (.agg #[.int .i64 6, .string ⟨#[]⟩, .slice a 2 c]) thQ ∧ Below w.heap.size w w' :=
  (wTheory_any pqL 13#64 a c (by decide) hc hc' w hs).mono fun e w' ⟨o, s, a, n, c, he, hf, hb⟩ => by
    rw [pq4] at hf
    rw [pq5] at he
    obtain ⟨rfl, rfl, rfl⟩ := hf.shape
    exact ⟨a, c, he, hf.free, hb⟩
theorem ex_forget (a : Option Addr) (c : Nat) (w : World) (hs : StrsIn w (fun _ => True) a pqL) :
    Calls Tryz.prog 36 #[.slice a 2 c, .int .u64 8, .string ⟨#[113]⟩] w fun e w' => e = .returned (.int .u64 10) ∧ Below w.heap.size w w' :=
  (forget_any pqL pq0 8#64 ⟨#[113]⟩ a c w hs).mono fun e w' ⟨he, hb⟩ => ⟨by rw [he, bv, pq8]; rfl, hb⟩
theorem ex_all (a : Option Addr) (c : Nat) (w : World) (hs : StrsIn w (fun _ => True) a pqL) :
    Calls Tryz.prog 28 #[.slice a 2 c] w fun e w' => e = .returned (.int .u64 15) ∧ Below w.heap.size w w' :=
  (wAll_any pqL pq0 a c (by decide) w hs).mono fun e w' ⟨he, hw⟩ => ⟨by rw [he]; show Ending.returned (bv (allS 2)) = _; rw [bv, pq9]; rfl, by rw [← hw]; exact Below.refl _ _⟩

set_option maxRecDepth 100000 in
set_option maxHeartbeats 2000000 in
theorem awake3_any (w : World) (hsg : SignsAt w) : Calls Tryz.prog 38 #[] w fun e w' => e = .returned (.bool true) ∧ Below w.heap.size w w' := by
  have HSG := hidIt (hsg.go (Grows.alloc w (.cells #[.string ⟨#[112]⟩, .string ⟨#[113]⟩] 9)))
  have HB0 : Hid (Below w.heap.size w (w.alloc (.cells #[.string ⟨#[112]⟩, .string ⟨#[113]⟩] 9))) := Grows.alloc _ _
  have HV : Hid (StrsIn (w.alloc (.cells #[.string ⟨#[112]⟩, .string ⟨#[113]⟩] 9)) (fun _ => True) (some ⟨w.heap.size, 0, none⟩) pqL) := strs_two (heap_alloc_new w _) (by unfold maxLen; decide) (by unfold maxLen; decide)
  clear hsg
  go_enter Tryz.func38, Tryz.ntmps38
  go_wp2_with fail
  generalize (w.alloc (.cells #[.string ⟨#[112]⟩, .string ⟨#[113]⟩] 9)) = w0 at *
  refine (parse_at _ (by unfold maxLen; decide) pqT 0 0 pq1 w0 HSG.out).mono ?_
  rintro e w1 ⟨a, c, rfl, hf, hb⟩
  have e1 : pqT.op = 7 := rfl
  have e2 : pqT.name = ⟨#[]⟩ := rfl
  have e3 : pqT.args.length = 2 := rfl
  rw [e1, e2, e3] at hf ⊢
  have HB1 := hidIt (HB0.out.trans (Below.mono (hb.alloc hb.size (.cells #[.int .i64 7, .string ⟨#[]⟩, .slice a 2 c] 24)) HB0.out.size))
  have HF1 := hidIt (hf.free.go (Grows.alloc w1 (.cells #[.int .i64 7, .string ⟨#[]⟩, .slice a 2 c] 24)))
  have HV1 := hidIt (HV.out.go (hb.alloc hb.size (.cells #[.int .i64 7, .string ⟨#[]⟩, .slice a 2 c] 24)))
  clear hb hf e1 e2 e3 HSG HB0 HV
  go_wp2_with fail
  refine (ex_models _ 2 _ _ HF1.out HV1.out).mono ?_
  rintro e w2 ⟨rfl, hb2⟩
  have HB2 := hidIt (HB1.out.trans (Below.mono hb2 HB1.out.size))
  have HV2 := hidIt (HV1.out.go hb2)
  clear hb2 HB1 HV1 HF1
  go_wp2_with fail
  refine (ex_theory _ 2 (by omega) (by unfold maxLen; omega) _ HV2.out).mono ?_
  rintro e w3 ⟨a3, c3, rfl, hf3, hb3⟩
  have HB3 := hidIt (HB2.out.trans (Below.mono (hb3.alloc hb3.size (.cells #[.int .i64 6, .string ⟨#[]⟩, .slice a3 2 c3] 24)) HB2.out.size))
  have HF3 := hidIt (hf3.go (Grows.alloc w3 (.cells #[.int .i64 6, .string ⟨#[]⟩, .slice a3 2 c3] 24)))
  have HV3 := hidIt (HV2.out.go (hb3.alloc hb3.size (.cells #[.int .i64 6, .string ⟨#[]⟩, .slice a3 2 c3] 24)))
  clear hb3 hf3 HB2 HV2
  go_wp2_with fail
  refine (fformat_any thQ _ _ HF3.out).mono ?_
  rintro e w4 ⟨rfl, hb4⟩
  rw [pq6, pq7]
  have HB4 := hidIt (HB3.out.trans (Below.mono hb4 HB3.out.size))
  have HV4 := hidIt (HV3.out.go hb4)
  clear hb4 HB3 HV3 HF3
  go_wp2_with fail
  refine (ex_forget _ 2 _ HV4.out).mono ?_
  rintro e w5 ⟨rfl, hb5⟩
  have HB5 := hidIt (HB4.out.trans (Below.mono hb5 HB4.out.size))
  have HV5 := hidIt (HV4.out.go hb5)
  clear hb5 HB4 HV4
  go_wp2_with fail
  refine (ex_all _ 2 _ HV5.out).mono ?_
  rintro e w6 ⟨rfl, hb6⟩
  have HB6 := hidIt (HB5.out.trans (Below.mono hb6 HB5.out.size))
  clear hb6 HB5 HV5
  go_wp2_with fail
  refine (size13 _).mono ?_
  rintro e w7 ⟨rfl, hb7⟩
  have HB7 := hidIt (HB6.out.trans (Below.mono hb7 HB6.out.size))
  clear hb7 HB6
  go_wp2_with fail
  go_ret
  exact ⟨rfl, HB7.out⟩
end Go.Proofs.YtilkpjcbmllgmaaGreatDoor

namespace Go.Proofs.YtilkpjcbmllgmaaGreatDoor
set_option linter.unusedVariables false
set_option linter.unusedSimpArgs false
open Go.RowKit

theorem okUpto_first (s : ByteArray) (h : 0 < s.size) (hf : fitsB (s[0].toNat : Int) 0 = false) : okUpto s.data.toList s.size = false := by
  refine okUpto_false _ 1 _ (by omega) ?_
  show (okUpto s.data.toList 0 && fitsB ((s.data.toList.getD 0 0).toNat : Int) ((0 : Nat) : Int)) = false
  rw [getD_at s 0 h]
  simpa [okUpto] using hf

set_option maxHeartbeats 1000000 in
theorem rValidName_any (s : ByteArray) (w : World) (hs : s.size ≤ maxLen) :
    Calls Tryz.prog 70 #[.string s] w fun e w' => e = .returned (.bool (vn s)) ∧ w = w' := by
  unfold maxLen at hs
  by_cases h0 : s.size = 0
  · have HV : Hid (vn s = false) := by show vn s = _; simp [vn, h0]
    have h0' : (s.size : Int) < 1 := by omega
    go_enter Tryz.func70, Tryz.ntmps70
    go_wp2
    go_ret
    exact ⟨ret_bool HV.out.symm, rfl⟩
  by_cases h1 : 12 < s.size
  · have HV : Hid (vn s = false) := by show vn s = _; simp [vn]; omega
    have h1' : (12 : Int) < s.size := by omega
    go_enter Tryz.func70, Tryz.ntmps70
    go_wp2
    go_ret
    exact ⟨ret_bool HV.out.symm, rfl⟩
  have hpos : 0 < s.size := by omega
  have hle : s.size ≤ 12 := by omega
  have HV : Hid (vn s = okUpto s.data.toList s.size) := by show vn s = _; simp [vn, hpos, hle]
  have hb : (s[0].toNat : Int) ≤ 255 := by have := s[0].toNat_lt; omega
  by_cases ha : (s[0].toNat : Int) < 97
  · have HF : Hid (vn s = false) := by
      show vn s = _
      rw [HV.out]; exact okUpto_first s hpos (by simp [fitsB]; omega)
    go_enter Tryz.func70, Tryz.ntmps70
    go_wp2
    go_ret
    exact ⟨ret_bool HF.out.symm, rfl⟩
  by_cases hz : (122 : Int) < (s[0].toNat : Int)
  · have HF : Hid (vn s = false) := by
      show vn s = _
      rw [HV.out]; exact okUpto_first s hpos (by simp [fitsB]; omega)
    go_enter Tryz.func70, Tryz.ntmps70
    go_wp2
    go_ret
    exact ⟨ret_bool HF.out.symm, rfl⟩
  have H0 : Hid (97 ≤ (s[0].toNat : Int) ∧ (s[0].toNat : Int) ≤ 122) := ⟨by omega, by omega⟩
  go_enter Tryz.func70, Tryz.ntmps70
  go_wp2
  go_loop [3] (fun i => ∃ k : Nat, k ≤ s.size ∧ i = .int .i64 k ∧ Hid (okUpto s.data.toList k = true)) (fun i => s.size - (intOf i).toNat)
  case atStart => exact ⟨0, Nat.zero_le _, rfl, rfl⟩
  case round =>
    clear ha hz hb
    obtain ⟨k, hk, rfl, hok⟩ := hrel
    by_cases hlt : k < s.size
    · have hbk : (s[k].toNat : Int) ≤ 255 := by have := s[k].toNat_lt; omega
      have hk0 : Hid (k = 0 → 97 ≤ (s[k].toNat : Int) ∧ (s[k].toNat : Int) ≤ 122) := fun e => by subst e; exact H0.out
      have hstep : Hid (okUpto s.data.toList (k + 1) = fitsB (s[k].toNat : Int) (k : Int)) := by
        show _ = _
        rw [okUpto, hok.out, getD_at s k hlt, Bool.true_and]
      obtain ⟨c, hc⟩ : ∃ c : Int, (s[k].toNat : Int) = c := ⟨_, rfl⟩
      have HC := hidIt hc
      have good : Hid (fitsB c (k : Int) = true → okUpto s.data.toList (k + 1) = true) := fun h => by rw [hstep.out, HC.out]; exact h
      have bad : Hid (fitsB c (k : Int) = false → vn s = false) := fun h => by
        rw [HV.out]; exact okUpto_false _ (k + 1) _ (by omega) (by rw [hstep.out, HC.out]; exact h)
      rw [hc] at hbk hk0
      have hc0 : 0 ≤ c := by omega
      clear hc
      by_cases a1 : (s[k].toNat : Int) < 97
      · by_cases a2 : (s[k].toNat : Int) < 48
        · go_wp2
          go_ret
          exact ⟨ret_bool (bad.out (by have := HC.out; simp [fitsB]; omega)).symm, rfl⟩
        · by_cases a3 : (57 : Int) < (s[k].toNat : Int)
          · by_cases a4 : (s[k].toNat : Int) = 95
            · have a4' : ((s[k].toNat : Int) != 95) = false := by rw [a4]; rfl
              have A4 := hidIt a4
              clear a4
              go_wp2
              go_round
              case rel => exact ⟨k + 1, by omega, by go_num, good.out (by have := HC.out; have := A4.out; have := hk0.out; simp [fitsB]; omega)⟩
              case measure => simp [intOf]; omega
            · have a4' : ((s[k].toNat : Int) != 95) = true := by simp only [bne_iff_ne, ne_eq]; exact a4
              go_wp2
              go_ret
              exact ⟨ret_bool (bad.out (by have := HC.out; simp [fitsB]; omega)).symm, rfl⟩
          · go_wp2
            go_round
            case rel => exact ⟨k + 1, by omega, by go_num, good.out (by have := HC.out; have := hk0.out; simp [fitsB]; omega)⟩
            case measure => simp [intOf]; omega
      · by_cases a2 : (122 : Int) < (s[k].toNat : Int)
        · have a4' : ((s[k].toNat : Int) != 95) = true := by simp only [bne_iff_ne, ne_eq]; omega
          go_wp2
          go_ret
          exact ⟨ret_bool (bad.out (by have := HC.out; simp [fitsB]; omega)).symm, rfl⟩
        · go_wp2
          go_round
          case rel => exact ⟨k + 1, by omega, by go_num, good.out (by have := HC.out; simp [fitsB]; omega)⟩
          case measure => simp [intOf]; omega
    · go_wp2
      go_ret
      exact ⟨ret_bool (by rw [HV.out]; obtain rfl : k = s.size := by omega
                          exact hok.out.symm), rfl⟩
end Go.Proofs.YtilkpjcbmllgmaaGreatDoor
