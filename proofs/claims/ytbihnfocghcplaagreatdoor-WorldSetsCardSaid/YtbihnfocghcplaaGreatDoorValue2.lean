/- The value of a formula: formula.value, wellFormed and Eval. -/
import Derived.Test.YtbihnfocghcplaaGreatDoorValue
import Derived.Test.YtbihnfocghcplaaGreatDoorFText
import Derived.Test.YtbihnfocghcplaaGreatDoorNeg
import Derived.BigRegion
namespace Go.Proofs.YtbihnfocghcplaaGreatDoor
set_option linter.unusedVariables false
set_option linter.unusedSimpArgs false
open Go.RowKit Go.Maps

/-- formula.value answers the value of t in every memory. -/
def ValueOk (t : Tree) : Prop := ∀ (v : Value) (w : World) (mb : Nat) (l : List ByteArray), FormAt w none v t → SetAt w mb l →
  Calls Tryz.prog 54 #[v, .map (some mb)] w fun e w' => e = .returned (.bool (valueB (inB l) t)) ∧ Below w.heap.size w w'

set_option maxRecDepth 100000 in
set_option maxHeartbeats 1000000 in
theorem value1_any (t : Tree) (ht : ValueOk t) (v : Value) (w : World) (mb pm pd : Nat) (l : List ByteArray) (d : Bool) (hv : FormAt w none v t) (hs : SetAt w mb l)
    (hpm : w.cell? ⟨pm, 0, none⟩ = some (.map (some mb))) (hpd : w.cell? ⟨pd, 0, none⟩ = some (.bool d)) :
    Calls Tryz.prog 95 #[v, .pointer (some ⟨pm, 0, none⟩), .pointer (some ⟨pd, 0, none⟩)] w fun e w' => e = .returned (.bool (valueB (inB l) t == d)) ∧ Below w.heap.size w w' := by
  have HV0 := hidIt hv
  obtain ⟨a, cap, b, off, rfl, hop, hname, hlen, hcap, -, -⟩ := hv.form
  have HT := hidIt ht
  have HBX : Hid (Below w.heap.size w (w.alloc (.cells #[.int .i64 t.op, .string t.name, .slice a t.args.length cap] 24))) := (Below.refl _ _).alloc (Nat.le_refl _) _
  have HV := hidIt (HV0.out.go HBX.out)
  have HS := hidIt (hs.go HBX.out)
  have hl1 := World.block_lt_of_cell? w ⟨pm, 0, none⟩ hpm
  have hl2 := World.block_lt_of_cell? w ⟨pd, 0, none⟩ hpd
  rw [← HBX.out.cell (p := ⟨pm, 0, none⟩) hl1] at hpm
  rw [← HBX.out.cell (p := ⟨pd, 0, none⟩) hl2] at hpd
  obtain ⟨x0, x1, x2⟩ := cell_of3 (heap_alloc_new w (.cells #[.int .i64 t.op, .string t.name, .slice a t.args.length cap] 24))
  have K0 := fun y => Ext.cell hpm y
  have K1 := fun y => Ext.cell hpd y
  have L0 := fun y => Ext.cell x0 y
  have L1 := fun y => Ext.cell x1 y
  have L2 := fun y => Ext.cell x2 y
  generalize t.op = op at *
  generalize t.name = name at *
  generalize t.args.length = n at *
  clear hv ht hs HV0 hop hname hlen hcap x0 x1 x2
  go_enter Tryz.func95, Tryz.ntmps95
  go_wp2_with fail
  generalize (w.alloc (.cells #[.int .i64 op, .string name, .slice a n cap] 24)) = W at *
  haveI := Ext.nonempty W
  refine wp_region_in (Ext W) (by kernel_rfl) (by kernel_rfl) (Ext.start W) ?_
  repeat (go_big_quiet_step (refine Ext.call (HT.out _ _ mb l (FormAt.go HV.out (In.h _)) (SetAt.go HS.out (In.h _)))))
  refine wpQuiet_nil ?_
  rintro w5 ⟨⟨_, h5⟩, rfl⟩
  have HB5 : Hid (Below w.heap.size w w5) := HBX.out.trans (Below.mono h5 HBX.out.size)
  clear h5 K0 K1 L0 L1 L2
  go_wp2_with fail
  go_ret
  exact ⟨rfl, HB5.out⟩

theorem enters_value1 : Enters 95 := enters_of Tryz.func95 (by kernel_rfl) rfl

theorem all_of_any (f : Tree → Bool) (ts : List Tree) : ((ts.any fun t => (f t == false)) == false) = ts.all f := by
  induction ts with
  | nil => rfl
  | cons t ts ih => simp only [List.any_cons, List.all_cons, ← ih]; cases f t <;> simp
theorem any_of_any (f : Tree → Bool) (ts : List Tree) : ((ts.any fun t => (f t == true)) == true) = ts.any f := by
  induction ts with
  | nil => rfl
  | cons t ts ih => simp only [List.any_cons, ← ih]; cases f t <;> simp

theorem cell_of1 {w : World} {b : Nat} {x : Value} {t : TypeId} (h : w.heap[b]? = some (.cells #[x] t (0, 0))) : w.cell? ⟨b, 0, none⟩ = some x := by simp [World.cell?, h]

/-- The two boxes that value lays for its parameters. -/
theorem boxes (w : World) (x y z m : Value) (W : World) (hW : (w.alloc (.cells #[x, y, z] 24)).alloc (.cells #[m] 66) = W) : W.cell? ⟨w.heap.size, 2, none⟩ = some z ∧ W.cell? ⟨w.heap.size + 1, 0, none⟩ = some m := by
  subst hW
  exact ⟨(cell_of3 (blk_kept (heap_alloc_new w _) ((Below.refl _ _).alloc (Nat.le_refl _) _))).2.2, cell_of1 (heap_alloc_at (by simp))⟩

theorem boxes3 (w : World) (x y z m d : Value) (W : World) (hW : ((w.alloc (.cells #[x, y, z] 24)).alloc (.cells #[m] 66)).alloc (.cells #[d] 4) = W) :
    W.cell? ⟨w.heap.size, 2, none⟩ = some z ∧ W.cell? ⟨w.heap.size + 1, 0, none⟩ = some m ∧ W.cell? ⟨w.heap.size + 1 + 1, 0, none⟩ = some d ∧ Below w.heap.size w W := by
  obtain ⟨h1, h2⟩ := boxes w x y z m _ rfl
  have hb := (Below.refl _ ((w.alloc (.cells #[x, y, z] 24)).alloc (.cells #[m] 66))).alloc (Nat.le_refl _) (.cells #[d] 4)
  subst hW
  exact ⟨(hb.cell (World.block_lt_of_cell? _ ⟨w.heap.size, 2, none⟩ h1)).trans h1, (hb.cell (World.block_lt_of_cell? _ ⟨w.heap.size + 1, 0, none⟩ h2)).trans h2, cell_of1 (heap_alloc_at (by simp)),
    (((Below.refl _ _).alloc (Nat.le_refl _) _).alloc (by simp) _).alloc (by simp; omega) _⟩

set_option maxRecDepth 100000 in
set_option maxHeartbeats 2000000 in
theorem value_any : ∀ t : Tree, t.all kindB = true → ValueOk t := by
  refine Tree.ind fun op name ts ih hk v w mb l hv hset => ?_
  obtain ⟨k1, k2⟩ := all_self hk
  have hargs := kindB_args k1
  have IH : ∀ t ∈ ts, ValueOk t := fun t ht => ih t ht (allL_mem k2 t ht)
  obtain ⟨a, cap, b, off, rfl, hop, hname, hlen', hcap, -, -⟩ := hv.form
  have HFS := hidIt hv.forms
  simp only [Tree.op_node, Tree.name_node, Tree.args_node] at *
  have hop8 : op = 1 ∨ op = 2 ∨ op = 3 ∨ op = 4 ∨ op = 5 ∨ op = 6 ∨ op = 7 ∨ op = 8 := by
    unfold kindB at k1
    simp only [Tree.op_node] at k1
    grind
  have hmax : cap ≤ maxLen := hcap
  clear ih hk k1 k2 hv hop
  obtain ⟨h4, h5, h7⟩ := hargs
  have IHH := hidIt IH
  have HSET := hidIt hset
  clear IH hset
  have HBX : ∀ o : Obj, Hid (Below w.heap.size w ((w.alloc o).alloc (.cells #[.map (some mb)] 66))) := fun o => ((Below.refl _ _).alloc (Nat.le_refl _) _).alloc (by simp) _
  rcases hop8 with rfl | rfl | rfl | rfl | rfl | rfl | rfl | rfl
  · have HE : Hid (valueB (inB l) (.node 1 name ts) = true) := by show _ = _; simp [valueB]
    clear h4 h5 h7
    go_enter Tryz.func54, Tryz.ntmps54
    go_wp2_with fail
    go_ret
    exact ⟨ret_bool HE.out.symm, (HBX _).out⟩
  · have HE : Hid (valueB (inB l) (.node 2 name ts) = false) := by show _ = _; simp [valueB]
    clear h4 h5 h7
    go_enter Tryz.func54, Tryz.ntmps54
    go_wp2_with fail
    go_ret
    exact ⟨ret_bool HE.out.symm, (HBX _).out⟩
  · have HE : Hid (valueB (inB l) (.node 3 name ts) = inB l name) := by show _ = _; simp [valueB]
    have hlook := (HSET.out.go (HBX (.cells #[.int .i64 3, .string name, .slice a ts.length cap] 24)).out).lookup name hname
    clear h4 h5 h7
    go_enter Tryz.func54, Tryz.ntmps54
    go_wp2_with fail
    go_ret
    exact ⟨ret_bool HE.out.symm, (HBX _).out⟩
  · obtain ⟨t, rfl⟩ : ∃ t, ts = [t] := List.length_eq_one_iff.1 (h4 rfl)
    have HE : Hid (valueB (inB l) (.node 4 name [t]) = !(valueB (inB l) t)) := by show _ = _; simp [valueB, valuesB]
    have ht := hidIt (IHH.out t (by simp))
    obtain ⟨b', off', a', c', rfl, c0, c1, c2, hf⟩ := HFS.out.at 0 (by simp)
    simp only [List.getElem_cons_zero] at c0 c1 c2 hf
    have hbl := World.block_lt_of_cell? w ⟨b', off' + 0 * 3, none⟩ c0
    simp only [Nat.zero_mul, Nat.add_zero, List.length_singleton] at c0 c1 c2 hbl hlen'
    have h01 : ([t] : List Tree).length = 1 := rfl
    rw [h01]
    have HBY := HBX (.cells #[.int .i64 4, .string name, .slice (some ⟨b', off', none⟩) 1 cap] 24)
    rw [← HBY.out.cell (p := ⟨b', off', none⟩) hbl] at c0
    rw [← HBY.out.cell (p := ⟨b', off' + 1, none⟩) hbl] at c1
    rw [← HBY.out.cell (p := ⟨b', off' + 2, none⟩) hbl] at c2
    have HF := hidIt (hf.go HBY.out)
    have HS := hidIt (HSET.out.go HBY.out)
    obtain ⟨x2, x3⟩ := boxes w (.int .i64 4) (.string name) (.slice (some ⟨b', off', none⟩) 1 cap) (.map (some mb)) _ rfl
    have K0 := fun y => Ext.cell c0 y
    have K1 := fun y => Ext.cell c1 y
    have K2 := fun y => Ext.cell c2 y
    have L2 := fun y => Ext.cell x2 y
    have L3 := fun y => Ext.cell x3 y
    clear hf h4 h5 h7 x2 x3 c0 c1 c2
    go_enter Tryz.func54, Tryz.ntmps54
    go_wp2_with fail
    generalize ((w.alloc (.cells #[.int .i64 4, .string name, .slice (some ⟨b', off', none⟩) 1 cap] 24)).alloc (.cells #[.map (some mb)] 66)) = W at *
    haveI := Ext.nonempty W
    refine wp_region_in (Ext W) (by kernel_rfl) (by kernel_rfl) (Ext.start W) ?_
    repeat (go_big_quiet_step (refine Ext.call (ht.out _ _ mb l (FormAt.go HF.out (In.h _)) (SetAt.go HS.out (In.h _)))))
    refine wpQuiet_nil ?_
    rintro w5 ⟨⟨_, h5⟩, rfl⟩
    have HB5 : Hid (Below w.heap.size w w5) := HBY.out.trans (Below.mono h5 HBY.out.size)
    clear h5 K0 K1 K2 L2 L3
    go_wp2_with fail
    go_ret
    exact ⟨ret_bool HE.out.symm, HB5.out⟩
  · have HE : Hid (valueB (inB l) (.node 5 name ts) = ((ts.any fun t => valueB (inB l) t == false) == false)) := by show _ = _; rw [all_of_any]; simp [valueB, valuesB_map, List.all_map]
    have hn : ts.length ≤ 6 := (h5 (.inl rfl)).2
    clear h4 h5 h7
    obtain ⟨W, hW⟩ : ∃ W, W = ((w.alloc (.cells #[.int .i64 5, .string name, .slice a ts.length cap] 24)).alloc (.cells #[.map (some mb)] 66)).alloc (.cells #[.bool false] 4) := ⟨_, rfl⟩
    obtain ⟨x2, x3, x4, hb0⟩ := boxes3 w (.int .i64 5) (.string name) (.slice a ts.length cap) (.map (some mb)) (.bool false) W hW.symm
    have HBY := hidIt hb0
    have hfs : Hid (FormsAt W none a ts) := HFS.out.go HBY.out
    have hss : Hid (SetAt W mb l) := HSET.out.go HBY.out
    have HC : Hid (∀ w', Below W.heap.size W w' → Calls Tryz.prog 96 #[.slice a ts.length cap, .func (.func 95) #[] #[.pointer (some ⟨w.heap.size + 1, 0, none⟩), .pointer (some ⟨w.heap.size + 1 + 1, 0, none⟩)]] w' fun e w2 => e = .returned (.bool (ts.any fun t => valueB (inB l) t == false)) ∧ Below w'.heap.size w' w2) := by
      intro w' hb
      refine containsFF 95 _ enters_value1 _ ts a cap (by omega) w' (FormsIn.go hfs.out hb) ?_
      intro t ht v w2 hb2 hv2
      have hb3 := hb.trans (hb2.mono hb.size)
      exact value1_any t (IHH.out t ht) v w2 mb _ _ l false hv2 (hss.out.go hb3) ((hb3.cell (World.block_lt_of_cell? W ⟨w.heap.size + 1, 0, none⟩ x3)).trans x3) ((hb3.cell (World.block_lt_of_cell? W ⟨w.heap.size + 1 + 1, 0, none⟩ x4)).trans x4)
    have K2 := fun y => Ext.cell x2 y
    have K3 := fun y => Ext.cell x3 y
    have K4 := fun y => Ext.cell x4 y
    generalize hany : (ts.any fun t => valueB (inB l) t == false) = an at HC HE
    clear x2 x3 x4 hfs hss IHH HFS HSET hb0
    go_enter Tryz.func54, Tryz.ntmps54
    go_wp2_with fail
    rw [← hW]
    clear hW hany
    haveI := Ext.nonempty W
    refine wp_region_in (Ext W) (by kernel_rfl) (by kernel_rfl) (Ext.start W) ?_
    repeat (go_big_quiet_step (refine Ext.call (HC.out _ (In.h _))))
    refine wpQuiet_nil ?_
    rintro w5 ⟨⟨_, h5⟩, rfl⟩
    have HB5 : Hid (Below w.heap.size w w5) := HBY.out.trans (Below.mono h5 HBY.out.size)
    clear h5 K2 K3 K4
    go_wp2_with fail
    go_ret
    exact ⟨ret_bool (by rw [HE.out]; cases an <;> rfl), HB5.out⟩
  · have HE : Hid (valueB (inB l) (.node 6 name ts) = ((ts.any fun t => valueB (inB l) t == true) == true)) := by show _ = _; rw [any_of_any]; simp [valueB, valuesB_map, List.any_map]
    have hn : ts.length ≤ 6 := (h5 (.inr rfl)).2
    clear h4 h5 h7
    obtain ⟨W, hW⟩ : ∃ W, W = ((w.alloc (.cells #[.int .i64 6, .string name, .slice a ts.length cap] 24)).alloc (.cells #[.map (some mb)] 66)).alloc (.cells #[.bool true] 4) := ⟨_, rfl⟩
    obtain ⟨x2, x3, x4, hb0⟩ := boxes3 w (.int .i64 6) (.string name) (.slice a ts.length cap) (.map (some mb)) (.bool true) W hW.symm
    have HBY := hidIt hb0
    have hfs : Hid (FormsAt W none a ts) := HFS.out.go HBY.out
    have hss : Hid (SetAt W mb l) := HSET.out.go HBY.out
    have HC : Hid (∀ w', Below W.heap.size W w' → Calls Tryz.prog 96 #[.slice a ts.length cap, .func (.func 95) #[] #[.pointer (some ⟨w.heap.size + 1, 0, none⟩), .pointer (some ⟨w.heap.size + 1 + 1, 0, none⟩)]] w' fun e w2 => e = .returned (.bool (ts.any fun t => valueB (inB l) t == true)) ∧ Below w'.heap.size w' w2) := by
      intro w' hb
      refine containsFF 95 _ enters_value1 _ ts a cap (by omega) w' (FormsIn.go hfs.out hb) ?_
      intro t ht v w2 hb2 hv2
      have hb3 := hb.trans (hb2.mono hb.size)
      exact value1_any t (IHH.out t ht) v w2 mb _ _ l true hv2 (hss.out.go hb3) ((hb3.cell (World.block_lt_of_cell? W ⟨w.heap.size + 1, 0, none⟩ x3)).trans x3) ((hb3.cell (World.block_lt_of_cell? W ⟨w.heap.size + 1 + 1, 0, none⟩ x4)).trans x4)
    have K2 := fun y => Ext.cell x2 y
    have K3 := fun y => Ext.cell x3 y
    have K4 := fun y => Ext.cell x4 y
    generalize hany : (ts.any fun t => valueB (inB l) t == true) = an at HC HE
    clear x2 x3 x4 hfs hss IHH HFS HSET hb0
    go_enter Tryz.func54, Tryz.ntmps54
    go_wp2_with fail
    rw [← hW]
    clear hW hany
    haveI := Ext.nonempty W
    refine wp_region_in (Ext W) (by kernel_rfl) (by kernel_rfl) (Ext.start W) ?_
    repeat (go_big_quiet_step (refine Ext.call (HC.out _ (In.h _))))
    refine wpQuiet_nil ?_
    rintro w5 ⟨⟨_, h5⟩, rfl⟩
    have HB5 : Hid (Below w.heap.size w w5) := HBY.out.trans (Below.mono h5 HBY.out.size)
    clear h5 K2 K3 K4
    go_wp2_with fail
    go_ret
    exact ⟨ret_bool (by rw [HE.out]; cases an <;> rfl), HB5.out⟩
  · obtain ⟨t, u, rfl⟩ : ∃ t u, ts = [t, u] := len_two (h7 (.inl rfl))
    have HE : Hid (valueB (inB l) (.node 7 name [t, u]) = (!(valueB (inB l) t) || valueB (inB l) u)) := by show _ = _; simp [valueB, valuesB]
    have ht := hidIt (IHH.out t (by simp))
    have hu := hidIt (IHH.out u (by simp))
    obtain ⟨b', off', a', c', rfl, c0, c1, c2, hf⟩ := HFS.out.at 0 (by simp)
    obtain ⟨b2, off2, a2, c2', e2, d0, d1, d2, hf2⟩ := HFS.out.at 1 (by simp)
    obtain ⟨rfl, rfl⟩ : b2 = b' ∧ off2 = off' := by
      injection e2 with e2
      injection e2 with e3 e4
      exact ⟨e3.symm, e4.symm⟩
    simp only [List.getElem_cons_zero, List.getElem_cons_succ] at c0 c1 c2 hf d0 d1 d2 hf2
    simp only [Nat.zero_mul, Nat.add_zero, Nat.one_mul] at c0 c1 c2 d0 d1 d2
    simp only [List.length_cons, List.length_nil] at hlen'
    have h01 : ([t, u] : List Tree).length = 2 := rfl
    rw [h01]
    have HBY := HBX (.cells #[.int .i64 7, .string name, .slice (some ⟨b2, off2, none⟩) 2 cap] 24)
    have hbl := World.block_lt_of_cell? w ⟨b2, off2, none⟩ c0
    rw [← HBY.out.cell (p := ⟨b2, off2, none⟩) hbl] at c0
    rw [← HBY.out.cell (p := ⟨b2, off2 + 1, none⟩) hbl] at c1
    rw [← HBY.out.cell (p := ⟨b2, off2 + 2, none⟩) hbl] at c2
    rw [← HBY.out.cell (p := ⟨b2, off2 + 3, none⟩) hbl] at d0
    rw [← HBY.out.cell (p := ⟨b2, off2 + 3 + 1, none⟩) hbl] at d1
    rw [← HBY.out.cell (p := ⟨b2, off2 + 3 + 2, none⟩) hbl] at d2
    have HF := hidIt (hf.go HBY.out)
    have HF2 := hidIt (hf2.go HBY.out)
    have HS := hidIt (HSET.out.go HBY.out)
    obtain ⟨x2, x3⟩ := boxes w (.int .i64 7) (.string name) (.slice (some ⟨b2, off2, none⟩) 2 cap) (.map (some mb)) _ rfl
    have K0 := fun y => Ext.cell c0 y
    have K1 := fun y => Ext.cell c1 y
    have K2 := fun y => Ext.cell c2 y
    have L0 := fun y => Ext.cell d0 y
    have L1 := fun y => Ext.cell d1 y
    have L2 := fun y => Ext.cell d2 y
    have M2 := fun y => Ext.cell x2 y
    have M3 := fun y => Ext.cell x3 y
    have HT := hidIt (fun (w : World) (hf : FormAt w none (.agg #[.int .i64 t.op, .string t.name, .slice a' t.args.length c']) t) (hs : SetAt w mb l) => ht.out _ w mb l hf hs)
    have HU := hidIt (fun (w : World) (hf : FormAt w none (.agg #[.int .i64 u.op, .string u.name, .slice a2 u.args.length c2']) u) (hs : SetAt w mb l) => hu.out _ w mb l hf hs)
    clear hf hf2 h4 h5 h7 c0 c1 c2 d0 d1 d2 x2 x3 e2 ht hu IHH HSET HFS
    generalize valueB (inB l) t = p at *
    generalize valueB (inB l) u = q at *
    go_enter Tryz.func54, Tryz.ntmps54
    go_wp2_with fail
    generalize ((w.alloc (.cells #[.int .i64 7, .string name, .slice (some ⟨b2, off2, none⟩) 2 cap] 24)).alloc (.cells #[.map (some mb)] 66)) = W at *
    haveI := Ext.nonempty W
    cases p
    all_goals
      refine wp_region_in (Ext W) (by kernel_rfl) (by kernel_rfl) (Ext.start W) ?_
      repeat (go_big_quiet_step (first
        | (with_reducible (refine Ext.call (HT.out _ (FormAt.go HF.out (In.h _)) (SetAt.go HS.out (In.h _)))))
        | (with_reducible (refine Ext.call (HU.out _ (FormAt.go HF2.out (In.h _)) (SetAt.go HS.out (In.h _)))))))
      refine wpQuiet_nil ?_
      rintro w5 ⟨⟨_, h5⟩, rfl⟩
      have HB5 : Hid (Below w.heap.size w w5) := HBY.out.trans (Below.mono h5 HBY.out.size)
      clear h5 K0 K1 K2 L0 L1 L2 M2 M3
      go_wp2_with fail
      go_ret
      exact ⟨ret_bool HE.out.symm, HB5.out⟩
  · obtain ⟨t, u, rfl⟩ : ∃ t u, ts = [t, u] := len_two (h7 (.inr rfl))
    have HE : Hid (valueB (inB l) (.node 8 name [t, u]) = (valueB (inB l) t == valueB (inB l) u)) := by show _ = _; simp [valueB, valuesB]
    have ht := hidIt (IHH.out t (by simp))
    have hu := hidIt (IHH.out u (by simp))
    obtain ⟨b', off', a', c', rfl, c0, c1, c2, hf⟩ := HFS.out.at 0 (by simp)
    obtain ⟨b2, off2, a2, c2', e2, d0, d1, d2, hf2⟩ := HFS.out.at 1 (by simp)
    obtain ⟨rfl, rfl⟩ : b2 = b' ∧ off2 = off' := by
      injection e2 with e2
      injection e2 with e3 e4
      exact ⟨e3.symm, e4.symm⟩
    simp only [List.getElem_cons_zero, List.getElem_cons_succ] at c0 c1 c2 hf d0 d1 d2 hf2
    simp only [Nat.zero_mul, Nat.add_zero, Nat.one_mul] at c0 c1 c2 d0 d1 d2
    simp only [List.length_cons, List.length_nil] at hlen'
    have h01 : ([t, u] : List Tree).length = 2 := rfl
    rw [h01]
    have HBY := HBX (.cells #[.int .i64 8, .string name, .slice (some ⟨b2, off2, none⟩) 2 cap] 24)
    have hbl := World.block_lt_of_cell? w ⟨b2, off2, none⟩ c0
    rw [← HBY.out.cell (p := ⟨b2, off2, none⟩) hbl] at c0
    rw [← HBY.out.cell (p := ⟨b2, off2 + 1, none⟩) hbl] at c1
    rw [← HBY.out.cell (p := ⟨b2, off2 + 2, none⟩) hbl] at c2
    rw [← HBY.out.cell (p := ⟨b2, off2 + 3, none⟩) hbl] at d0
    rw [← HBY.out.cell (p := ⟨b2, off2 + 3 + 1, none⟩) hbl] at d1
    rw [← HBY.out.cell (p := ⟨b2, off2 + 3 + 2, none⟩) hbl] at d2
    have HF := hidIt (hf.go HBY.out)
    have HF2 := hidIt (hf2.go HBY.out)
    have HS := hidIt (HSET.out.go HBY.out)
    obtain ⟨x2, x3⟩ := boxes w (.int .i64 8) (.string name) (.slice (some ⟨b2, off2, none⟩) 2 cap) (.map (some mb)) _ rfl
    have K0 := fun y => Ext.cell c0 y
    have K1 := fun y => Ext.cell c1 y
    have K2 := fun y => Ext.cell c2 y
    have L0 := fun y => Ext.cell d0 y
    have L1 := fun y => Ext.cell d1 y
    have L2 := fun y => Ext.cell d2 y
    have M2 := fun y => Ext.cell x2 y
    have M3 := fun y => Ext.cell x3 y
    have HT := hidIt (fun (w : World) (hf : FormAt w none (.agg #[.int .i64 t.op, .string t.name, .slice a' t.args.length c']) t) (hs : SetAt w mb l) => ht.out _ w mb l hf hs)
    have HU := hidIt (fun (w : World) (hf : FormAt w none (.agg #[.int .i64 u.op, .string u.name, .slice a2 u.args.length c2']) u) (hs : SetAt w mb l) => hu.out _ w mb l hf hs)
    clear hf hf2 h4 h5 h7 c0 c1 c2 d0 d1 d2 x2 x3 e2 ht hu IHH HSET HFS
    generalize valueB (inB l) t = p at *
    generalize valueB (inB l) u = q at *
    go_enter Tryz.func54, Tryz.ntmps54
    go_wp2_with fail
    generalize ((w.alloc (.cells #[.int .i64 8, .string name, .slice (some ⟨b2, off2, none⟩) 2 cap] 24)).alloc (.cells #[.map (some mb)] 66)) = W at *
    haveI := Ext.nonempty W
    all_goals
      refine wp_region_in (Ext W) (by kernel_rfl) (by kernel_rfl) (Ext.start W) ?_
      repeat (go_big_quiet_step (first
        | (with_reducible (refine Ext.call (HT.out _ (FormAt.go HF.out (In.h _)) (SetAt.go HS.out (In.h _)))))
        | (with_reducible (refine Ext.call (HU.out _ (FormAt.go HF2.out (In.h _)) (SetAt.go HS.out (In.h _)))))))
      refine wpQuiet_nil ?_
      rintro w5 ⟨⟨_, h5⟩, rfl⟩
      have HB5 : Hid (Below w.heap.size w w5) := HBY.out.trans (Below.mono h5 HBY.out.size)
      clear h5 K0 K1 K2 L0 L1 L2 M2 M3
      go_wp2_with fail
      go_ret
      exact ⟨ret_bool HE.out.symm, HB5.out⟩

/-- Is every node of a kind with the right name and number of arguments? -/
def wellF (t : Tree) : Bool := t.all (fun t => kindB t && nameB t)
theorem wellF_split (t : Tree) : wellF t = (t.all kindB && t.all nameB) := wellB_split t

theorem enters_well1 : Enters 92 := enters_of Tryz.func92 (by kernel_rfl) rfl

set_option maxHeartbeats 400000 in
theorem well1_any : Tests 92 (fun t => kindB t && nameB t) := by
  intro t v w h
  obtain ⟨a, cap, b, off, rfl, -⟩ := h.form
  have H := hidIt h
  clear h
  cases hk : kindB t
  · have HK := hidIt hk
    clear hk
    go_enter Tryz.func92, Tryz.ntmps92
    go_wp2_with fail
    refine (kindFits_any t _ _ (H.out.go ((Below.refl _ _).alloc (Nat.le_refl _) _))).mono ?_
    rintro e w' ⟨rfl, hb⟩
    rw [HK.out]
    have HB := hidIt (below_box hb)
    clear hb
    go_wp2_with fail
    go_ret
    exact ⟨ret_bool (by rw [HK.out]; rfl), HB.out⟩
  · have HK := hidIt hk
    clear hk
    go_enter Tryz.func92, Tryz.ntmps92
    go_wp2_with fail
    refine (kindFits_any t _ _ (H.out.go ((Below.refl _ _).alloc (Nat.le_refl _) _))).mono ?_
    rintro e w' ⟨rfl, hb⟩
    rw [HK.out]
    have HB := hidIt (below_box hb)
    have HF := hidIt (H.out.go (below_box hb))
    obtain ⟨p0, p1, p2⟩ := cell_of3 (laid_box hb)
    have hsz : w.heap.size < w'.heap.size := lt_of_block (laid_box hb)
    clear hb
    go_wp2_with fail
    refine (nameFits_any t _ _ HF.out).mono ?_
    rintro e w2 ⟨rfl, hb2⟩
    have HB2 := hidIt (HB.out.trans (hb2.mono HB.out.size))
    clear hb2
    go_wp2_with fail
    go_ret
    exact ⟨ret_bool (by rw [HK.out]; rfl), HB2.out⟩

set_option maxHeartbeats 400000 in
theorem well_any (t : Tree) (v : Value) (w : World) (h : FormAt w none v t) :
    Calls Tryz.prog 53 #[v] w fun e w' => e = .returned (.bool (wellF t)) ∧ Below w.heap.size w w' := by
  obtain ⟨a, cap, b, off, rfl, -⟩ := h.form
  have H := hidIt h
  clear h
  go_enter Tryz.func53, Tryz.ntmps53
  go_wp2_with fail
  refine (every_any _ _ enters_well1 well1_any t _ _ (H.out.go ((Below.refl _ _).alloc (Nat.le_refl _) _))).mono ?_
  rintro e w' ⟨rfl, hb⟩
  have HB := hidIt (below_box hb)
  clear hb
  go_wp2_with fail
  go_ret
  exact ⟨rfl, HB.out⟩
/-- What Eval answers. -/
def evalB (t : Tree) (yes : List ByteArray) : Bool := wellF t && valueB (inB yes) t

set_option maxRecDepth 100000 in
set_option maxHeartbeats 1000000 in
theorem eval_any (t : Tree) (v : Value) (ya : Option Addr) (yc : Nat) (yes : List ByteArray) (hn : yes.length ≤ 1000000) (w : World) (h : FormAt w none v t) (hy : StrsIn w (fun _ => True) ya yes) :
    Calls Tryz.prog 14 #[v, .slice ya yes.length yc] w fun e w' => e = .returned (.bool (evalB t yes)) ∧ Below w.heap.size w w' := by
  have hmm := @run_makeMap Tryz.prog
  have H0 := hidIt h
  obtain ⟨a, cap, b, off, rfl, hop, hname, hlen, hcap, -, -⟩ := h.form
  have HY0 := hidIt hy
  have HE : Hid (evalB t yes = (wellF t && valueB (inB yes) t)) := rfl
  have HOK := hidIt (fun hk => value_any t hk)
  have HWELL := hidIt (well_any t)
  have HSP := hidIt (wellF_split t)
  clear h hy
  generalize t.op = op at *
  generalize t.name = name at *
  generalize t.args.length = n at *
  clear hop hname hlen hcap
  go_enter Tryz.func14, Tryz.ntmps14
  go_wp2_with fail
  have HB0 : Hid (Below w.heap.size w ((w.alloc (.cells #[.int .i64 op, .string name, .slice a n cap] 24)).alloc (.map #[] 0))) := ((Below.refl _ _).alloc (Nat.le_refl _) _).alloc (by simp) _
  have HX : Hid (((w.alloc (.cells #[.int .i64 op, .string name, .slice a n cap] 24)).alloc (.map #[] 0)).heap[w.heap.size]? = some (.cells #[.int .i64 op, .string name, .slice a n cap] 24 (0, 0))) := blk_kept (heap_alloc_new w _) ((Below.refl _ _).alloc (Nat.le_refl _) _)
  have HM : Hid (SetAt ((w.alloc (.cells #[.int .i64 op, .string name, .slice a n cap] 24)).alloc (.map #[] 0)) (w.heap.size + 1) []) := by
    have := SetAt.made (w.alloc (.cells #[.int .i64 op, .string name, .slice a n cap] 24))
    exact hidIt (by simpa using this)
  go_loopw [11] (fun i wr => ∃ k : Nat, k ≤ yes.length ∧ i = .int .i64 k ∧ Hid (wr.heap[w.heap.size]? = some (.cells #[.int .i64 op, .string name, .slice a n cap] 24 (0, 0))) ∧ Hid (SetAt wr (w.heap.size + 1) (yes.take k)) ∧ Hid (Below w.heap.size w wr)) (fun i _ => yes.length - (intOf i).toNat)
  case atStart => exact ⟨0, Nat.zero_le _, rfl, HX, HM, HB0⟩
  case round =>
    clear HB0 HX HM
    obtain ⟨k, hk, rfl, hx, hset, hbel⟩ := hrel
    by_cases hlt : k < yes.length
    · obtain ⟨b', off', rfl, c0, hs⟩ := (HY0.out.go hbel.out).at k hlt
      have hst := hidIt (take_snoc' yes k hlt)
      generalize yes[k] = s at *
      obtain ⟨w3, hrun3, hset3, hg3⟩ := hset.out.put s hs (by rw [List.length_take]; omega)
      have HS3 := hidIt hset3
      have HG3 := hidIt hg3
      clear hset3 hg3
      go_wp2_with fail
      go_roundw
      case rel => exact ⟨k + 1, by omega, by go_num, own_kept hx.out HG3.out (by omega), by show SetAt _ _ _; rw [hst.out]; exact HS3.out, hbel.out.grown HG3.out hbel.out.size (fun g e => by injection e with e; omega)⟩
      case measure => simp [intOf]; omega
    · have htk : Hid (yes.take k = yes) := List.take_of_length_le (by omega)
      have HS := hset.out
      rw [htk.out] at HS
      have HSS := hidIt HS
      obtain ⟨x0, x1, x2⟩ := cell_of3 hx.out
      have hlx := lt_of_block hx.out
      have HF := hidIt (H0.out.go hbel.out)
      clear HS htk hset
      cases hw : wellF t
      · have HW := hidIt hw
        clear hw
        go_wp2_with fail
        refine (HWELL.out _ _ HF.out).mono ?_
        rintro e w4 ⟨rfl, hb4⟩
        rw [HW.out]
        have HB4 := hidIt (hbel.out.trans (hb4.mono hbel.out.size))
        clear hb4
        go_wp2_with fail
        go_ret
        exact ⟨ret_bool (by rw [HE.out, HW.out]; rfl), HB4.out⟩
      · have HW := hidIt hw
        have hkk : t.all kindB = true := by
          have := HSP.out
          rw [hw] at this
          cases h1 : t.all kindB
          · rw [h1] at this; cases this
          · rfl
        have HV := hidIt (HOK.out hkk)
        clear hw hkk
        go_wp2_with fail
        refine (HWELL.out _ _ HF.out).mono ?_
        rintro e w4 ⟨rfl, hb4⟩
        rw [HW.out]
        have HB4 := hidIt (hbel.out.trans (hb4.mono hbel.out.size))
        have HX4 := blk_kept hx.out hb4
        have HF4 := hidIt (HF.out.go hb4)
        have HS4 := hidIt (HSS.out.go hb4)
        clear hb4 x0 x1 x2 hlx
        obtain ⟨x0, x1, x2⟩ := cell_of3 HX4
        have hlx := lt_of_block HX4
        clear HX4
        go_wp2_with fail
        refine (HV.out _ _ _ yes HF4.out HS4.out).mono ?_
        rintro e w5 ⟨rfl, hb5⟩
        have HB5 := hidIt (HB4.out.trans (hb5.mono HB4.out.size))
        clear hb5
        go_wp2_with fail
        go_ret
        exact ⟨ret_bool (by rw [HE.out, HW.out]; rfl), HB5.out⟩
end Go.Proofs.YtbihnfocghcplaaGreatDoor
