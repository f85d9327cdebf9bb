/- The value of a formula: formula.value and Eval. -/
import Derived.Test.YtbihnfocghcplaaGreatDoorWithin
import Derived.Test.YtbihnfocghcplaaGreatDoorMapS
import Derived.Test.YtbihnfocghcplaaGreatDoorIn
import Derived.LoopTactic
namespace Go.Proofs.YtbihnfocghcplaaGreatDoor
set_option linter.unusedVariables false
set_option linter.unusedSimpArgs false
open Go.RowKit Go.Maps

mutual
/-- The value of a formula where p says which atoms are true. -/
def valueB (p : ByteArray → Bool) : Tree → Bool
  | .node op name ts =>
    if op = 1 then true else if op = 2 then false
    else if op = 4 then !((valuesB p ts).getD 0 false)
    else if op = 5 then (valuesB p ts).all id
    else if op = 6 then (valuesB p ts).any id
    else if op = 7 then (!((valuesB p ts).getD 0 false) || (valuesB p ts).getD 1 false)
    else if op = 8 then ((valuesB p ts).getD 0 false == (valuesB p ts).getD 1 false)
    else p name
def valuesB (p : ByteArray → Bool) : List Tree → List Bool
  | [] => []
  | t :: ts => valueB p t :: valuesB p ts
end
theorem valuesB_map (p : ByteArray → Bool) : ∀ ts, valuesB p ts = ts.map (valueB p)
  | [] => rfl
  | t :: ts => by rw [valuesB, valuesB_map p ts]; rfl

/-- Does a test that is called as a function value say yes of one of the formulas? -/
def FTest (w : World) (fv : Value) (q : Tree → Bool) (ts : List Tree) : Prop :=
  ∀ t ∈ ts, ∀ (v : Value) (w' : World), Below w.heap.size w w' → FormAt w' none v t → ∃ (f : Nat) (first cap : Array Value), fv = .func (.func f) first cap ∧ (∀ (args : Array Value) (w : World), (callFunc f args).run Tryz.prog w = .ok (.enter f args) w) ∧
    Calls Tryz.prog f (first ++ #[v] ++ cap) w' fun e w2 => e = .returned (.bool (q t)) ∧ Below w'.heap.size w' w2

set_option maxRecDepth 100000 in
set_option maxHeartbeats 1000000 in
theorem indexFF (f : Nat) (cap : Array Value) (hcf : ∀ (args : Array Value) (w : World), (callFunc f args).run Tryz.prog w = .ok (.enter f args) w) (q : Tree → Bool) (ts : List Tree) (a : Option Addr) (cp : Nat) (hn : ts.length ≤ 1000000) (w : World) (h : FormsAt w none a ts)
    (hq : ∀ t ∈ ts, ∀ (v : Value) (w' : World), Below w.heap.size w w' → FormAt w' none v t → Calls Tryz.prog f (#[v] ++ cap) w' fun e w2 => e = .returned (.bool (q t)) ∧ Below w'.heap.size w' w2) :
    Calls Tryz.prog 111 #[.slice a ts.length cp, .func (.func f) #[] cap] w fun e w' => ∃ i : Int, e = .returned (.int .i64 i) ∧ (0 ≤ i ↔ ts.any q = true) ∧ Below w.heap.size w w' := by
  have HF := hidIt h
  have HQ := hidIt hq
  clear h hq
  go_enter Tryz.func111, Tryz.ntmps111
  go_wp2_with fail
  go_loopw [8] (fun i wr => ∃ k : Nat, k ≤ ts.length ∧ i = .int .i64 k ∧ Hid ((ts.take k).any q = false) ∧ Hid (Below w.heap.size w wr)) (fun i _ => ts.length - (intOf i).toNat)
  case atStart => exact ⟨0, Nat.zero_le _, rfl, rfl, Below.refl _ _⟩
  case round =>
    obtain ⟨k, hk, rfl, hno, hbel⟩ := hrel
    by_cases hlt : k < ts.length
    · obtain ⟨b', off', a', c', rfl, c0, c1, c2, hf⟩ := (HF.out.go hbel.out).at k hlt
      have HF1 := hidIt hf
      have hm : ts[k] ∈ ts := List.getElem_mem hlt
      have hst : (ts.take (k + 1)).any q = ((ts.take k).any q || q ts[k]) := by rw [take_snoc' ts k hlt, List.any_append]; simp
      have HST := hidIt hst
      clear hf hst
      generalize ts[k] = t at *
      cases hqt : q t
      · have HQT := hidIt hqt
        clear hqt
        go_wp2_with fail
        refine (HQ.out t hm _ wr hbel.out HF1.out).mono ?_
        rintro e w2 ⟨rfl, hb2⟩
        rw [HQT.out]
        have HB2 := hidIt (hbel.out.trans (hb2.mono hbel.out.size))
        clear hb2
        go_wp2_with fail
        go_roundw
        case rel => exact ⟨k + 1, by omega, by go_num, by show _ = _; rw [HST.out, hno.out, HQT.out]; rfl, HB2⟩
        case measure => simp [intOf]; omega
      · have HQT := hidIt hqt
        clear hqt
        go_wp2_with fail
        refine (HQ.out t hm _ wr hbel.out HF1.out).mono ?_
        rintro e w2 ⟨rfl, hb2⟩
        rw [HQT.out]
        have HB2 := hidIt (hbel.out.trans (hb2.mono hbel.out.size))
        clear hb2
        go_wp2_with fail
        go_ret
        exact ⟨k, rfl, ⟨fun _ => List.any_eq_true.2 ⟨t, hm, HQT.out⟩, fun _ => by omega⟩, HB2.out⟩
    · go_wp2_with fail
      go_ret
      have := hno.out
      rw [List.take_of_length_le (by omega)] at this
      exact ⟨_, rfl, ⟨fun h => by omega, fun h => by rw [this] at h; cases h⟩, hbel.out⟩

set_option maxHeartbeats 400000 in
theorem containsFF (f : Nat) (cap : Array Value) (hcf : ∀ (args : Array Value) (w : World), (callFunc f args).run Tryz.prog w = .ok (.enter f args) w) (q : Tree → Bool) (ts : List Tree) (a : Option Addr) (cp : Nat) (hn : ts.length ≤ 1000000) (w : World) (h : FormsAt w none a ts)
    (hq : ∀ t ∈ ts, ∀ (v : Value) (w' : World), Below w.heap.size w w' → FormAt w' none v t → Calls Tryz.prog f (#[v] ++ cap) w' fun e w2 => e = .returned (.bool (q t)) ∧ Below w'.heap.size w' w2) :
    Calls Tryz.prog 96 #[.slice a ts.length cp, .func (.func f) #[] cap] w fun e w' => e = .returned (.bool (ts.any q)) ∧ Below w.heap.size w w' := by
  have HI := hidIt (indexFF f cap hcf q ts a cp hn w h hq)
  clear h hq hcf
  go_enter Tryz.func96, Tryz.ntmps96
  go_wp2_with fail
  refine HI.out.mono ?_
  rintro e w' ⟨i, rfl, hi, hb⟩
  have HB := hidIt hb
  have HIF := hidIt hi
  clear hb hi HI
  go_wp2
  go_ret
  refine ⟨ret_bool ?_, HB.out⟩
  rw [Bool.eq_iff_iff]
  simp only [decide_eq_true_eq]
  exact HIF.out
end Go.Proofs.YtbihnfocghcplaaGreatDoor
