/- Which formulas are well-formed, and Validate. -/
import Derived.Test.YtpiiadmjddikfaaDoorSize
import Derived.Lib.Strings
namespace Go.Proofs.YtpiiadmjddikfaaDoor
set_option linter.unusedVariables false
set_option linter.unusedSimpArgs false
open Go.RowKit

/-- Does a node have a kind, and the number of arguments of its kind? -/
def kindB (t : Tree) : Bool :=
  if t.op = 1 ∨ t.op = 2 ∨ t.op = 3 then t.args.length == 0
  else if t.op = 4 then t.args.length == 1
  else if t.op = 5 ∨ t.op = 6 then decide (2 ≤ t.args.length ∧ t.args.length ≤ 6)
  else if t.op = 7 ∨ t.op = 8 then t.args.length == 2
  else false

/-- Does a node have the name that it should have? -/
def nameB (t : Tree) : Bool := if t.op = 3 then vn t.name else t.name.size == 0

set_option maxHeartbeats 400000 in
theorem kindFits_any (t : Tree) (v : Value) (w : World) (h : FormAt w none v t) :
    Calls Tryd.prog 35 #[v] w fun e w' => e = .returned (.bool (kindB t)) ∧ Below w.heap.size w w' := by
  obtain ⟨a, cap, b, off, rfl, hop, hname, hlen, hcap, -, -⟩ := h.form
  have hK : Hid (kindB t = if t.op = 1 ∨ t.op = 2 ∨ t.op = 3 then t.args.length == 0
    else if t.op = 4 then t.args.length == 1
    else if t.op = 5 ∨ t.op = 6 then decide (2 ≤ t.args.length ∧ t.args.length ≤ 6)
    else if t.op = 7 ∨ t.op = 8 then t.args.length == 2
    else false) := rfl
  have hb : Hid (Below w.heap.size w (w.alloc (.cells #[.int .i64 t.op, .string t.name, .slice a t.args.length cap] 24))) := (Below.refl _ _).alloc (Nat.le_refl _) _
  generalize kindB t = kb at *
  generalize t.args.length = n at *
  generalize t.op = op at *
  generalize t.name = nm at *
  unfold maxLen at hcap
  clear h
  go_enter Tryd.func35, Tryd.ntmps35
  go_wp2
  all_goals (go_ret; refine ⟨ret_bool ?_, hb.out⟩; rw [hK.out]; grind)

theorem isEmpty_size (s : ByteArray) : s.toList.isEmpty = (s.size == 0) := by
  rw [Lib.toList_data]
  obtain ⟨⟨l⟩⟩ := s
  cases l <;> rfl

set_option maxHeartbeats 400000 in
theorem nameFits_any (t : Tree) (v : Value) (w : World) (h : FormAt w none v t) :
    Calls Tryd.prog 36 #[v] w fun e w' => e = .returned (.bool (nameB t)) ∧ Below w.heap.size w w' := by
  obtain ⟨a, cap, b, off, rfl, hop, hname, hlen, hcap, -, -⟩ := h.form
  have hb : Hid (Below w.heap.size w (w.alloc (.cells #[.int .i64 t.op, .string t.name, .slice a t.args.length cap] 24))) := (Below.refl _ _).alloc (Nat.le_refl _) _
  by_cases ho : t.op = 3
  · have hK : Hid (nameB t = vn t.name) := by show _ = _; simp [nameB, ho]
    have he : (t.op == 3) = true := by simp [ho]
    generalize nameB t = kb at *
    generalize t.args.length = n at *
    generalize t.op = op at *
    generalize t.name = nm at *
    clear h ho
    go_enter Tryd.func36, Tryd.ntmps36
    go_wp2_with (go_at_call 56; refine (validName_any _ _ hname).mono ?_; rintro e w' ⟨rfl, rfl⟩)
    go_ret
    exact ⟨ret_bool hK.out.symm, hb.out⟩
  · have hK : Hid (nameB t = (t.name.size == 0)) := by show _ = _; simp [nameB, ho]
    have he : (t.op == 3) = false := by simp [ho]
    generalize nameB t = kb at *
    generalize t.args.length = n at *
    generalize t.op = op at *
    generalize t.name = nm at *
    clear h ho
    go_enter Tryd.func36, Tryd.ntmps36
    go_wp2_with fail
    go_ret
    exact ⟨ret_bool (by rw [hK.out]; exact isEmpty_size nm), hb.out⟩

/-- A function of the program that has a body. -/
def Enters (k : Nat) : Prop := ∀ (args : Array Value) (w : World), (callFunc k args).run Tryd.prog w = .ok (.enter k args) w

theorem enters_of {k : Nat} {fn : Func} {c : Code} (hf : Tryd.prog.funcs[k]? = some fn) (hname : (fn.name == "runtime.NumGoroutine") = false) (hb : fn.body = some c) : Enters k := fun args w => by
  have h1 : fn.name ≠ "runtime.NumGoroutine" := by simpa using hname
  simp [callFunc, go_sem, hf, h1, hb]

/-- The function answers p of every formula. -/
def Tests (k : Nat) (p : Tree → Bool) : Prop := ∀ (t : Tree) (v : Value) (w : World), FormAt w none v t → Calls Tryd.prog k #[v] w fun e w' => e = .returned (.bool (p t)) ∧ Below w.heap.size w w'

set_option maxRecDepth 100000 in
set_option maxHeartbeats 400000 in
theorem every_any (f : Nat) (p : Tree → Bool) (hf : Enters f) (hp : Tests f p) : ∀ (t : Tree) (v : Value) (w : World), FormAt w none v t →
    Calls Tryd.prog 34 #[v, .func (.func f) #[] #[]] w fun e w' => e = .returned (.bool (t.all p)) ∧ Below w.heap.size w w' := by
  refine Tree.ind fun op name ts ih v w hv => ?_
  obtain ⟨a, cap, b, off, rfl, hop, hname, hlen, hcap, ha, hc⟩ := hv.form
  simp only [Tree.op_node, Tree.name_node, Tree.args_node] at *
  have HA := hidIt ha
  have HC := hidIt hc
  have IH := hidIt ih
  have HV := hidIt hv
  have HPP := hidIt hp
  unfold maxLen at hcap
  have hcf : ∀ (args : Array Value) (w : World), (callFunc f args).run Tryd.prog w = .ok (.enter f args) w := hf
  clear ha hc ih hv hp
  cases hpt : p (.node op name ts)
  · have HR : Hid ((Tree.node op name ts).all p = false) := by show _ = _; simp [Tree.all, hpt]
    have HT := hidIt hpt
    clear hpt
    go_enter Tryd.func34, Tryd.ntmps34
    go_wp2_with fail
    refine (HPP.out _ _ _ (HV.out.go ((Below.refl _ _).alloc (Nat.le_refl _) _))).mono ?_
    rintro e w' ⟨rfl, hb⟩
    rw [HT.out]
    have HB := hidIt (below_box hb)
    clear hb
    go_wp2_with fail
    go_ret
    exact ⟨ret_bool HR.out.symm, HB.out⟩
  · have HR : Hid ((Tree.node op name ts).all p = allL p ts) := by show _ = _; simp [Tree.all, hpt]
    have HT := hidIt hpt
    clear hpt
    go_enter Tryd.func34, Tryd.ntmps34
    go_wp2_with fail
    refine (HPP.out _ _ _ (HV.out.go ((Below.refl _ _).alloc (Nat.le_refl _) _))).mono ?_
    rintro e w' ⟨rfl, hb⟩
    rw [HT.out]
    have HB := hidIt (below_box hb)
    obtain ⟨p0, p1, p2⟩ := cell_of3 (laid_box hb)
    have hsz : w.heap.size < w'.heap.size := lt_of_block (laid_box hb)
    clear hb
    go_wp2_with fail
    go_loopw [14] (fun i wr => ∃ k : Nat, k ≤ ts.length ∧ i = .int .i64 k ∧ Hid (allL p (ts.take k) = true) ∧ Hid (Below w.heap.size w wr)) (fun i _ => ts.length - (intOf i).toNat)
    case atStart => exact ⟨0, Nat.zero_le _, rfl, rfl, HB.out⟩
    case round =>
      clear HB
      obtain ⟨k, hk, rfl, hall, hbel⟩ := hrel
      by_cases hlt : k < ts.length
      · obtain ⟨a', cap', c0, c1, c2, hf⟩ := HC.out k hlt
        obtain ⟨rfl, -⟩ := HA.out (by omega)
        have hbw : b < w.heap.size := World.block_lt_of_cell? w ⟨b, off + k * 3, none⟩ c0
        rw [← hbel.out.cell (p := ⟨b, off + k * 3, none⟩) hbw] at c0
        rw [← hbel.out.cell (p := ⟨b, off + k * 3 + 1, none⟩) hbw] at c1
        rw [← hbel.out.cell (p := ⟨b, off + k * 3 + 2, none⟩) hbw] at c2
        have HF := hidIt (hf.go hbel.out)
        have HS := hidIt (allL_take p ts k hlt)
        have hm : ts[k] ∈ ts := List.getElem_mem hlt
        clear hf
        generalize ts[k] = t at *
        go_wp2_with fail
        refine (IH.out t hm _ _ (HF.out.go ((Below.refl _ _).alloc (Nat.le_refl _) _))).mono ?_
        rintro e w' ⟨rfl, hb⟩
        have HB := hidIt (hbel.out.trans ((below_box hb).mono hbel.out.size))
        clear hb
        cases hpt : t.all p
        · have HE : Hid (allL p ts = false) := allL_take_false p ts (k + 1) (by rw [HS.out, hpt, Bool.and_false])
          clear hpt
          go_wp2_with fail
          go_ret
          exact ⟨ret_bool (by rw [HR.out, HE.out]), HB.out⟩
        · have HE : Hid (allL p (ts.take (k + 1)) = true) := by show _ = _; rw [HS.out, hall.out, hpt]; rfl
          clear hpt
          go_wp2_with fail
          go_roundw
          case rel => exact ⟨k + 1, by omega, by go_num, HE.out, HB.out⟩
          case measure => simp [intOf]; omega
      · go_wp2
        go_ret
        exact ⟨ret_bool (by rw [HR.out, ← hall.out, List.take_of_length_le (by omega)]), hbel.out⟩
end Go.Proofs.YtpiiadmjddikfaaDoor
