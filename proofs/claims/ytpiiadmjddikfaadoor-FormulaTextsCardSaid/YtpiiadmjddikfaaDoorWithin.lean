/- withinLimits, and Validate. -/
import Derived.Test.YtpiiadmjddikfaaDoorKinds
import Derived.Laws.EntriesVeiled
namespace Go.Proofs.YtpiiadmjddikfaaDoor
set_option linter.unusedVariables false
set_option linter.unusedSimpArgs false
open Go.RowKit

/-- May a tree stand at this depth behind so many nodes? -/
def fitsAt (c d : Nat) (t : Tree) : Bool := decide (c + t.nodes ≤ 600 ∧ d + t.depth ≤ 20)

theorem enters_kindFits : Enters 35 := enters_of Tryd.func35 (by kernel_rfl) rfl
theorem enters_nameFits : Enters 36 := enters_of Tryd.func36 (by kernel_rfl) rfl

/-- What Validate answers. -/
def valE (t : Tree) : Int := if fitsAt 0 0 t then (if t.all kindB then (if t.all nameB then 0 else 3) else 4) else 2

/-- What the closure's variables hold: the count, and the closure itself. -/
structure WAt (w : World) (n v : Nat) (c : Nat) : Prop where
  hn : w.heap[n]? = some (.cells #[.int .i64 c] 3 (0, 0))
  hv : w.heap[v]? = some (.cells #[.func (.func 55) #[] #[.pointer (some ⟨n, 0, none⟩), .pointer (some ⟨v, 0, none⟩)]] 79 (0, 0))
  hne : n ≠ v

section
variable {w w' : World} {n v c : Nat}
theorem WAt.kept (h : WAt w n v c) (hb : Below w.heap.size w w') : WAt w' n v c :=
  ⟨blk_kept h.hn hb, blk_kept h.hv hb, h.hne⟩
theorem WAt.alloc (h : WAt w n v c) (o : Obj) : WAt (w.alloc o) n v c := h.kept ((Below.refl _ _).alloc (Nat.le_refl _) o)
theorem WAt.set (h : WAt w n v c) (c' : Nat) : WAt (w.setCell ⟨n, 0, none⟩ (.int .i64 c')) n v c' :=
  ⟨one_setCell h.hn, by rw [Below.heap_setCell _ _ _ _ (fun e => h.hne (by simpa using e.symm))]; exact h.hv, h.hne⟩
theorem WAt.drewN (h : WAt w n v c) (k : Nat) : WAt (w.drewN k) n v c := ⟨h.hn, h.hv, h.hne⟩
end

theorem fitsAt_many {c d op name ts} (h : 600 ≤ c) : fitsAt c d (.node op name ts) = false := by
  exact decide_eq_false (by simp only [Tree.nodes]; omega)
theorem fitsAt_deep {c d op name ts} (h : 20 < d) : fitsAt c d (.node op name ts) = false := by
  exact decide_eq_false (by simp only [Tree.nodes]; omega)
/-- The arguments so far fit. -/
def fitL (c d : Nat) (l : List Tree) : Prop := c + 1 + nodesL l ≤ 600 ∧ d + depthL l ≤ 20
theorem fitL_step {c d k : Nat} {ts : List Tree} (hk : k < ts.length) (h : fitL c d (ts.take k)) (hf : fitsAt (c + 1 + nodesL (ts.take k)) (d + 1) ts[k] = true) : fitL c d (ts.take (k + 1)) := by
  unfold fitL at *
  rw [nodesL_take ts k hk, depthL_take ts k hk]
  have hf := of_decide_eq_true hf
  omega
theorem fitL_no {c d k : Nat} {op : Int} {name : ByteArray} {ts : List Tree} (hk : k < ts.length) (hf : fitsAt (c + 1 + nodesL (ts.take k)) (d + 1) ts[k] = false) : fitsAt c d (.node op name ts) = false := by
  have hf := of_decide_eq_false hf
  refine decide_eq_false ?_
  simp only [Tree.nodes, Tree.depth]
  have h1 := nodesL_take ts k hk
  have h2 := nodesL_take_le ts (k + 1)
  have h3 := depthL_take ts k hk
  have h4 := depthL_take_le ts (k + 1)
  omega
theorem fitL_all {c d : Nat} {op : Int} {name : ByteArray} {ts : List Tree} (h : fitL c d ts) : fitsAt c d (.node op name ts) = true := by
  unfold fitL at h
  refine decide_eq_true ?_
  simp only [Tree.nodes, Tree.depth]
  omega

set_option maxRecDepth 100000 in
set_option maxHeartbeats 1000000 in
theorem within1_any : ∀ (t : Tree) (v : Value) (n vb c d : Nat) (w : World), FormAt w (some n) v t → WAt w n vb c → c ≤ 600 → d ≤ 21 →
    Calls Tryd.prog 55 #[v, .int .i64 d, .pointer (some ⟨n, 0, none⟩), .pointer (some ⟨vb, 0, none⟩)] w fun e w' => e = .returned (.bool (fitsAt c d t)) ∧ w.grownBy w' (some n) ∧ ∃ c', WAt w' n vb c' ∧ (fitsAt c d t = true → c' = c + t.nodes) := by
  refine Tree.ind fun op name ts ih v n vb c d w hv hw hc hd => ?_
  have HW := hidIt hw
  obtain ⟨a, cap, b, off, rfl, hop, hname, hlen, hcap, ha, hcl⟩ := hv.form
  simp only [Tree.op_node, Tree.name_node, Tree.args_node] at *
  have HA := hidIt ha
  have HC := hidIt hcl
  have IH := hidIt ih
  unfold maxLen at hcap
  obtain ⟨hn, hvb, hne⟩ := hw
  have n0 : w.cell? ⟨n, 0, none⟩ = some (.int .i64 c) := cell_of_one hn
  have f0 := free_of_one hn
  have v0 := cell_of_one hvb
  have hnlt := lt_of_block hn
  have hvlt := lt_of_block hvb
  have hnb : w.heap.size ≠ n := by omega
  clear ha hcl ih hv hn hvb
  by_cases hc1 : 600 ≤ c
  · have HF := hidIt (fitsAt_many (d := d) (op := op) (name := name) (ts := ts) hc1)
    have h1 : (600 : Int) < (c : Int) + 1 := by omega
    go_enter Tryd.func55, Tryd.ntmps55
    go_wp2_with fail
    go_ret
    exact ⟨ret_bool HF.out.symm, only_alloc (only_setCell (only_refl _ _) (.inl rfl) _) _, c + 1, (HW.out.set (c + 1)).alloc _, fun h => by rw [HF.out] at h; cases h⟩
  by_cases hd1 : 20 < d
  · have HF := hidIt (fitsAt_deep (c := c) (op := op) (name := name) (ts := ts) hd1)
    have h1 : decide ((600 : Int) < (c : Int) + 1) = false := by simp; omega
    have h2 : (20 : Int) < (d : Int) := by omega
    go_enter Tryd.func55, Tryd.ntmps55
    go_wp2_with fail
    go_ret
    exact ⟨ret_bool HF.out.symm, only_alloc (only_setCell (only_refl _ _) (.inl rfl) _) _, c + 1, (HW.out.set (c + 1)).alloc _, fun h => by rw [HF.out] at h; cases h⟩
  have h1 : decide ((600 : Int) < (c : Int) + 1) = false := by simp; omega
  have h2 : decide ((20 : Int) < (d : Int)) = false := by simp; omega
  go_enter Tryd.func55, Tryd.ntmps55
  go_wp2_with fail
  go_loopw [20] (fun i wr => ∃ k : Nat, k ≤ ts.length ∧ i = .int .i64 k ∧ Hid (fitL c d (ts.take k)) ∧ Hid (WAt wr n vb (c + 1 + nodesL (ts.take k))) ∧ Hid (w.grownBy wr (some n))) (fun i _ => ts.length - (intOf i).toNat)
  case atStart => exact ⟨0, Nat.zero_le _, rfl, (show fitL c d [] by unfold fitL; simp [nodesL, depthL]; omega), (HW.out.set (c + 1)).alloc _, only_alloc (only_setCell (only_refl _ _) (.inl rfl) _) _⟩
  case round =>
    obtain ⟨k, hk, rfl, hfit, hwat, hgr⟩ := hrel
    clear n0 v0
    by_cases hlt : k < ts.length
    · obtain ⟨a', cap', c0, c1, c2, hf⟩ := HC.out k hlt
      obtain ⟨rfl, hnb'⟩ := HA.out (by omega)
      have hbn : b ≠ n := fun e => hnb' (by rw [e])
      have c0 := hgr.out.cell (a := ⟨b, off + k * 3, none⟩) c0 (fun e => hnb' e.symm)
      have c1 := hgr.out.cell (a := ⟨b, off + k * 3 + 1, none⟩) c1 (fun e => hnb' e.symm)
      have c2 := hgr.out.cell (a := ⟨b, off + k * 3 + 2, none⟩) c2 (fun e => hnb' e.symm)
      have HF := hidIt (FormAt.kept hf hgr.out)
      have hm : ts[k] ∈ ts := List.getElem_mem hlt
      have v0 := cell_of_one hwat.out.hv
      have hvlt := lt_of_block hwat.out.hv
      have hb1 := hfit.out.1
      have hb2 := hfit.out.2
      have hnext : Hid (fitsAt (c + 1 + nodesL (ts.take k)) (d + 1) ts[k] = true → fitL c d (ts.take (k + 1))) := fitL_step hlt hfit.out
      have hno : Hid (fitsAt (c + 1 + nodesL (ts.take k)) (d + 1) ts[k] = false → fitsAt c d (.node op name ts) = false) := fitL_no hlt
      have HS := hidIt (nodesL_take ts k hlt)
      clear hf
      generalize ts[k] = t at *
      go_wp2_with fail
      refine (IH.out t hm _ n vb (c + 1 + nodesL (ts.take k)) (d + 1) _ (HF.out.go ((Below.refl _ _).alloc (Nat.le_refl _) _)) (hwat.out.alloc _) (by omega) (by omega)).mono ?_
      rintro e w' ⟨rfl, hg, c', hw', hcc⟩
      have HG := hidIt (only_trans (only_alloc hgr.out _) hg)
      have HW' := hidIt hw'
      have HCC := hidIt hcc
      clear hg hw' hcc
      cases hpt : fitsAt (c + 1 + nodesL (ts.take k)) (d + 1) t
      · have HE := hidIt (hno.out hpt)
        clear hpt
        go_wp2_with fail
        go_ret
        exact ⟨ret_bool HE.out.symm, HG.out, c', HW'.out, fun h => by rw [HE.out] at h; cases h⟩
      · have HE := hidIt (hnext.out hpt)
        have HC' := hidIt (HCC.out hpt)
        clear hpt
        go_wp2_with fail
        go_roundw
        case rel => exact ⟨k + 1, by omega, by go_num, HE, (by show WAt _ _ _ _; rw [HS.out, ← Nat.add_assoc, ← HC'.out]; exact HW'.out), HG⟩
        case measure => simp [intOf]; omega
    · go_wp2
      go_ret
      have hfit' := hfit.out
      have hwat' := hwat.out
      rw [List.take_of_length_le (by omega)] at hfit' hwat'
      exact ⟨ret_bool (fitL_all hfit').symm, hgr.out, _, hwat', fun _ => by simp only [Tree.nodes]; omega⟩

theorem within1_zero (t : Tree) (v : Value) (n vb : Nat) (w : World) (hv : FormAt w (some n) v t) (hw : WAt w n vb 0) :
    Calls Tryd.prog 55 #[v, .int .i64 0, .pointer (some ⟨n, 0, none⟩), .pointer (some ⟨vb, 0, none⟩)] w fun e w' => e = .returned (.bool (fitsAt 0 0 t)) ∧ w.grownBy w' (some n) :=
  (within1_any t v n vb 0 0 w hv hw (by omega) (by omega)).mono fun _ _ h => ⟨h.1, h.2.1⟩

set_option maxRecDepth 100000 in
set_option maxHeartbeats 400000 in
theorem within_any (t : Tree) (v : Value) (w : World) (h : FormAt w none v t) :
    Calls Tryd.prog 33 #[v] w fun e w' => e = .returned (.bool (fitsAt 0 0 t)) ∧ Below w.heap.size w w' := by
  have H := hidIt h
  obtain ⟨a, cap, b, off, rfl, hop, hname, hlen, hcap, -, -⟩ := h.form
  have hmf : ∀ (fn : Fn) (first cap : Array Value) (w : World), (Instr.makeFunc fn first cap).run Tryd.prog w = .ok (.func fn first cap) w := fun _ _ _ _ => rfl
  clear h
  go_enter Tryd.func33, Tryd.ntmps33
  go_wp2_with fail
  refine (within1_zero t _ (w.heap.size + 1) (w.heap.size + 1 + 1) _ ((FormAt.kept (FormAt.avoid H.out (n := w.heap.size + 1) (by omega)) (only_alloc (only_alloc (only_alloc (only_refl _ _) _) _) _))) ⟨?_, ?_, by omega⟩).mono ?_
  · exact (Below.heap_alloc _ _ _ (by simp)).trans (heap_alloc_at (by simp))
  · exact heap_alloc_at (by simp)
  rintro e w' ⟨rfl, hg⟩
  have HG : Hid (Below w.heap.size w w') := by
    have h1 : w.grownBy w' (some (w.heap.size + 1)) := only_trans (only_alloc (only_alloc (only_alloc (only_refl _ _) _) _) _) hg
    exact ⟨h1.os, h1.tape, h1.output, h1.size, fun i hi => h1.block i hi (fun e => by injection e with e; omega)⟩
  clear hg
  go_wp2_with fail
  go_ret
  exact ⟨rfl, HG.out⟩

set_option maxHeartbeats 400000 in
theorem validate_any (t : Tree) (v : Value) (w : World) (h : FormAt w none v t) :
    Calls Tryd.prog 16 #[v] w fun e w' => e = .returned (.int .i64 (valE t)) ∧ Below w.heap.size w w' := by
  obtain ⟨a, cap, b, off, rfl, hop, hname, hlen, hcap, -, -⟩ := h.form
  have H := hidIt (h.go ((Below.refl _ _).alloc (Nat.le_refl _) (.cells #[.int .i64 t.op, .string t.name, .slice a t.args.length cap] 24)))
  clear h
  cases h1 : fitsAt 0 0 t
  · have HV : Hid (valE t = 2) := by show _ = _; simp [valE, h1]
    have H1 := hidIt h1
    clear h1
    go_enter Tryd.func16, Tryd.ntmps16
    go_wp2_with fail
    refine (within_any t _ _ H.out).mono ?_
    rintro e w' ⟨rfl, hb⟩
    rw [H1.out]
    have HB := hidIt (below_box hb)
    clear hb
    go_wp2_with fail
    go_ret
    exact ⟨ret_int HV.out.symm, HB.out⟩
  cases h2 : t.all kindB
  · have HV : Hid (valE t = 4) := by show _ = _; simp [valE, h1, h2]
    have H1 := hidIt h1
    have H2 := hidIt h2
    clear h1 h2
    go_enter Tryd.func16, Tryd.ntmps16
    go_wp2_with fail
    refine (within_any t _ _ H.out).mono ?_
    rintro e w' ⟨rfl, hb⟩
    rw [H1.out]
    have HB := hidIt (below_box hb)
    obtain ⟨p0, p1, p2⟩ := cell_of3 (laid_box hb)
    have hsz : w.heap.size < w'.heap.size := lt_of_block (laid_box hb)
    have HF := hidIt (H.out.go hb)
    clear hb
    go_wp2_with fail
    refine (every_any 35 kindB enters_kindFits kindFits_any t _ _ HF.out).mono ?_
    rintro e w2 ⟨rfl, hb2⟩
    rw [H2.out]
    have HB2 := hidIt (HB.out.trans (hb2.mono HB.out.size))
    clear hb2
    go_wp2_with fail
    go_ret
    exact ⟨ret_int HV.out.symm, HB2.out⟩
  · have HV : Hid (valE t = if t.all nameB then 0 else 3) := by show _ = _; simp [valE, h1, h2]
    have H1 := hidIt h1
    have H2 := hidIt h2
    clear h1 h2
    go_enter Tryd.func16, Tryd.ntmps16
    go_wp2_with fail
    refine (within_any t _ _ H.out).mono ?_
    rintro e w' ⟨rfl, hb⟩
    rw [H1.out]
    have HB := hidIt (below_box hb)
    have K1 := laid_box hb
    obtain ⟨p0, p1, p2⟩ := cell_of3 K1
    have hsz : w.heap.size < w'.heap.size := lt_of_block K1
    have HF := hidIt (H.out.go hb)
    have HK1 := hidIt K1
    clear hb K1
    go_wp2_with fail
    refine (every_any 35 kindB enters_kindFits kindFits_any t _ _ HF.out).mono ?_
    rintro e w2 ⟨rfl, hb2⟩
    rw [H2.out]
    have HB2 := hidIt (HB.out.trans (hb2.mono HB.out.size))
    have HF2 := hidIt (HF.out.go hb2)
    have K2 := blk_kept HK1.out hb2
    clear p0 p1 p2 hsz
    obtain ⟨p0, p1, p2⟩ := cell_of3 K2
    have hsz : w.heap.size < w2.heap.size := lt_of_block K2
    clear hb2 K2
    go_wp2_with fail
    refine (every_any 36 nameB enters_nameFits nameFits_any t _ _ HF2.out).mono ?_
    rintro e w3 ⟨rfl, hb3⟩
    have HB3 := hidIt (HB2.out.trans (hb3.mono HB2.out.size))
    clear hb3
    cases h3 : t.all nameB
    · have H3 := hidIt h3
      clear h3
      go_wp2_with fail
      go_ret
      exact ⟨ret_int (by rw [HV.out, H3.out]; rfl), HB3.out⟩
    · have H3 := hidIt h3
      clear h3
      go_wp2_with fail
      go_ret
      exact ⟨ret_int (by rw [HV.out, H3.out]; rfl), HB3.out⟩
end Go.Proofs.YtpiiadmjddikfaaDoor
