/- The reference's strength, argument, joined, text and Format. -/
import Derived.Test.YtpiiadmjddikfaaDoorRefW
import Derived.Test.YtpiiadmjddikfaaDoorFText
namespace Go.Proofs.YtpiiadmjddikfaaDoor
set_option linter.unusedVariables false
set_option linter.unusedSimpArgs false
open Go.RowKit

set_option maxHeartbeats 400000 in
theorem qstrength_any (t : Tree) (v : Value) (w : World) (h : FormAt w none v t) :
    Calls Tryd.prog 73 #[v] w fun e w' => e = .returned (.int .i64 (strengthI t)) ∧ Below w.heap.size w w' := by
  obtain ⟨a, cap, b, off, rfl, hop, hname, hlen, hcap, -, -⟩ := h.form
  have hK : Hid (strengthI t = if t.op = 8 then 1 else if t.op = 7 then 2 else if t.op = 6 then 3 else if t.op = 5 then 4 else 5) := rfl
  have hb : Hid (Below w.heap.size w (w.alloc (.cells #[.int .i64 t.op, .string t.name, .slice a t.args.length cap] 24))) := (Below.refl _ _).alloc (Nat.le_refl _) _
  generalize strengthI t = kb at *
  generalize t.args.length = n at *
  generalize t.op = op at *
  generalize t.name = nm at *
  unfold maxLen at hcap
  clear h
  go_enter Tryd.func73, Tryd.ntmps73
  go_wp2
  all_goals (go_ret; refine ⟨ret_int ?_, hb.out⟩; rw [hK.out]; grind)

def QTextOk (t : Tree) : Prop := ∀ (v : Value) (w : World), FormAt w none v t → Calls Tryd.prog 32 #[v] w fun e w' => e = .returned (.string (textB t)) ∧ Below w.heap.size w w'

set_option maxHeartbeats 400000 in
theorem qargument_any (t : Tree) (ht : QTextOk t) (hsz : (textB t).size ≤ 1000000) (v : Value) (least : Int) (hl : 0 ≤ least) (hl' : least ≤ 9) (w : World) (h : FormAt w none v t) :
    Calls Tryd.prog 53 #[v, .int .i64 least] w fun e w' => e = .returned (.string (partB (textB t) (strengthI t) least)) ∧ Below w.heap.size w w' := by
  obtain ⟨a, cap, b, off, rfl, hop, hname, hlen, hcap, -, -⟩ := h.form
  have H := hidIt (h.go ((Below.refl _ _).alloc (Nat.le_refl _) (.cells #[.int .i64 t.op, .string t.name, .slice a t.args.length cap] 24)))
  have HT := hidIt ht
  clear h ht
  by_cases hlt : strengthI t < least
  · have HE : Hid (partB (textB t) (strengthI t) least = ⟨#[40]⟩ ++ textB t ++ ⟨#[41]⟩) := by show _ = _; simp [partB, hlt]
    go_enter Tryd.func53, Tryd.ntmps53
    go_wp2_with fail
    refine (qstrength_any t _ _ H.out).mono ?_
    rintro e w' ⟨rfl, hb⟩
    have HB := hidIt (below_box hb)
    obtain ⟨p0, p1, p2⟩ := cell_of3 (laid_box hb)
    have hsz : w.heap.size < w'.heap.size := lt_of_block (laid_box hb)
    have HF := hidIt (H.out.go hb)
    clear hb
    go_wp2_with fail
    refine (HT.out _ _ HF.out).mono ?_
    rintro e w2 ⟨rfl, hb2⟩
    have HB2 := hidIt (HB.out.trans (hb2.mono HB.out.size))
    clear hb2
    go_wp2_with fail
    go_ret
    exact ⟨ret_str' HE.out.symm, HB2.out⟩
  · have HE : Hid (partB (textB t) (strengthI t) least = textB t) := by show _ = _; simp [partB, hlt]
    go_enter Tryd.func53, Tryd.ntmps53
    go_wp2_with fail
    refine (qstrength_any t _ _ H.out).mono ?_
    rintro e w' ⟨rfl, hb⟩
    have HB := hidIt (below_box hb)
    obtain ⟨p0, p1, p2⟩ := cell_of3 (laid_box hb)
    have hsz : w.heap.size < w'.heap.size := lt_of_block (laid_box hb)
    have HF := hidIt (H.out.go hb)
    clear hb
    go_wp2_with fail
    refine (HT.out _ _ HF.out).mono ?_
    rintro e w2 ⟨rfl, hb2⟩
    have HB2 := hidIt (HB.out.trans (hb2.mono HB.out.size))
    clear hb2
    go_wp2_with fail
    go_ret
    exact ⟨ret_str' HE.out.symm, HB2.out⟩

theorem joinB_snoc (sign : ByteArray) (l : List ByteArray) (k : Nat) (h1 : 1 ≤ k) (hk : k < l.length) : joinB sign (l.take (k + 1)) = joinB sign (l.take k) ++ sign ++ l[k] := by
  rw [take_snoc' l k hk]
  cases l with
  | nil => simp at hk
  | cons s l =>
    obtain ⟨k, rfl⟩ : ∃ m, k = m + 1 := ⟨k - 1, by omega⟩
    simp only [List.take_succ_cons, List.cons_append, joinB, List.foldl_append, List.foldl_cons, List.foldl_nil]

set_option maxRecDepth 100000 in
set_option maxHeartbeats 1000000 in
theorem qjoined_any (sign : ByteArray) (hs : sign.size ≤ 5) (least : Int) (hl : 0 ≤ least) (hl' : least ≤ 9) (ts : List Tree) (ht : ∀ t ∈ ts, QTextOk t) (hsz : ∀ t ∈ ts, (textB t).size ≤ 1000000) (h1 : 1 ≤ ts.length) (hn : ts.length ≤ 600) (a : Option Addr) (cap : Nat) (w : World) (h : FormsAt w none a ts) :
    Calls Tryd.prog 54 #[.slice a ts.length cap, .string sign, .int .i64 least] w fun e w' => e = .returned (.string (joinB sign (textsB least ts))) ∧ Below w.heap.size w w' := by
  have HF := hidIt h
  have HT := hidIt ht
  have HS := hidIt hsz
  obtain ⟨parts, hparts⟩ : ∃ p, p = textsB least ts := ⟨_, rfl⟩
  have hpl : parts.length = ts.length := by rw [hparts, textsB_map, List.length_map]
  have hpk : Hid (∀ k (h1 : k < parts.length) (h2 : k < ts.length), parts[k] = partB (textB ts[k]) (strengthI ts[k]) least) := by
    intro k h1 h2
    subst hparts
    simp only [textsB_map, List.getElem_map]
  have hps : Hid (∀ k, (joinB sign (parts.take k)).size ≤ 700000000) := by
    intro k
    have h1 := joinB_size sign (parts.take k)
    have h2 := sum_map_le (parts.take k) (fun s => s.size + sign.size) 1000010 (fun s hs' => by
      obtain ⟨k, hk, rfl⟩ := List.mem_iff_getElem.1 (List.mem_of_mem_take hs')
      have hk2 : k < ts.length := by omega
      have e2 := hpk.out k hk hk2
      have h3 := partB_size (textB ts[k]) (strengthI ts[k]) least
      have h4 := hsz _ (List.getElem_mem hk2)
      show parts[k].size + sign.size ≤ _
      rw [e2]
      omega)
    have h5 : (parts.take k).length * 1000010 ≤ 600 * 1000010 := Nat.mul_le_mul_right _ (by rw [List.length_take]; omega)
    omega
  rw [← hparts]
  obtain ⟨b, off, a', c', rfl, c0, c1, c2, hf⟩ := h.at 0 h1
  have HF0 := hidIt hf
  have hm : ts[0] ∈ ts := List.getElem_mem h1
  have ht0 := hidIt (ht _ hm)
  have hs0 := hsz _ hm
  have hx0 : Hid (partB (textB ts[0]) (strengthI ts[0]) least = joinB sign (parts.take 1)) := by
    show _ = _
    rw [← hpk.out 0 (by omega) h1]
    cases parts with
    | nil => simp at hpl; omega
    | cons s l => simp [joinB]
  have hnt : (ts.length : Int) ≤ 600 := by omega
  simp only [Nat.zero_mul, Nat.add_zero] at c0 c1 c2
  clear h ht hsz hparts hf hm
  generalize ts[0] = t0 at *
  go_enter Tryd.func54, Tryd.ntmps54
  go_wp2_with fail
  refine (qargument_any t0 ht0.out hs0 _ least hl hl' _ HF0.out).mono ?_
  rintro e w1 ⟨rfl, hb⟩
  have HB1 := hidIt hb
  rw [hx0.out]
  clear hb c0 c1 c2
  go_wp2_with fail
  go_loopw [7, 8] (fun s i wr => ∃ k : Nat, 1 ≤ k ∧ k ≤ ts.length ∧ i = .int .i64 k ∧ s = .string (joinB sign (parts.take k)) ∧ Hid (Below w.heap.size w wr)) (fun _ i _ => ts.length - (intOf i).toNat)
  case atStart => exact ⟨1, Nat.le_refl _, h1, rfl, rfl, HB1.out⟩
  case round =>
    obtain ⟨k, hk1, hk, rfl, rfl, hbel⟩ := hrel
    by_cases hlt : k < ts.length
    · obtain ⟨b', off', a', c', e', c0, c1, c2, hf⟩ := (HF.out.go hbel.out).at k hlt
      obtain ⟨rfl, rfl⟩ : b' = b ∧ off' = off := by
        injection e' with e2
        injection e2 with e3 e4
        exact ⟨e3.symm, e4.symm⟩
      have HF1 := hidIt hf
      have hm : ts[k] ∈ ts := List.getElem_mem hlt
      have htk := hidIt (HT.out _ hm)
      have hsk := HS.out _ hm
      have hpk2 := partB_size (textB ts[k]) (strengthI ts[k]) least
      have hx : Hid (joinB sign (parts.take (k + 1)) = joinB sign (parts.take k) ++ sign ++ partB (textB ts[k]) (strengthI ts[k]) least) := by
        show _ = _
        rw [joinB_snoc sign parts k hk1 (by omega), hpk.out k (by omega) hlt]
      have hsj := hps.out k
      have hlt0 : (k : Int) < (ts.length : Int) := by omega
      have hk0 : (0 : Int) ≤ (k : Int) := by omega
      clear hf e'
      generalize ts[k] = t at *
      generalize joinB sign (parts.take k) = acc at *
      go_wp2_with fail
      refine (qargument_any t htk.out hsk _ least hl hl' _ HF1.out).mono ?_
      rintro e w' ⟨rfl, hb⟩
      have HB := hidIt (hbel.out.trans (hb.mono hbel.out.size))
      clear hb
      go_wp2_with fail
      go_roundw
      case rel => exact ⟨k + 1, by omega, by omega, by go_num, by rw [hx.out], HB.out⟩
      case measure => simp [intOf]; omega
    · have hkn : k = ts.length := by omega
      go_wp2_with fail
      go_ret
      exact ⟨ret_str' (by rw [List.take_of_length_le (by omega)]), hbel.out⟩

set_option maxRecDepth 100000 in
set_option maxHeartbeats 1000000 in
theorem qtext_any : ∀ t : Tree, t.all kindB = true → t.all nameB = true → t.nodes ≤ 600 → QTextOk t := by
  refine Tree.ind fun op name ts ih hk hnm hn v w hv => ?_
  obtain ⟨k1, k2⟩ := all_self hk
  obtain ⟨n1, n2⟩ := all_self hnm
  have hargs := kindB_args k1
  have hnn : 1 + nodesL ts ≤ 600 := by simpa [Tree.nodes] using hn
  have hlen := nodes_len_le ts
  have IH : ∀ t ∈ ts, QTextOk t := fun t ht => ih t ht (allL_mem k2 t ht) (allL_mem n2 t ht) (by have := nodes_mem_le ht; omega)
  have HSZ : ∀ t ∈ ts, (textB t).size ≤ 1000000 := fun t ht => by have := textB_size t (allL_mem n2 t ht); have := nodes_mem_le ht; omega
  obtain ⟨a, cap, b, off, rfl, hop, hname, hlen', hcap, -, -⟩ := hv.form
  have HFS := hidIt hv.forms
  simp only [Tree.op_node, Tree.name_node, Tree.args_node] at *
  have hop8 : op = 1 ∨ op = 2 ∨ op = 3 ∨ op = 4 ∨ op = 5 ∨ op = 6 ∨ op = 7 ∨ op = 8 := by
    unfold kindB at k1
    simp only [Tree.op_node] at k1
    grind
  clear ih hk hnm k1 k2 n1 n2 hv hn hop
  obtain ⟨h4, h5, h7⟩ := hargs
  have IHH := hidIt IH
  have HSZH := hidIt HSZ
  clear IH HSZ
  rcases hop8 with rfl | rfl | rfl | rfl | rfl | rfl | rfl | rfl
  · have HE : Hid (textB (.node 1 name ts) = ⟨#[49]⟩) := by show _ = _; simp [textB]
    clear h4 h5 h7
    go_enter Tryd.func32, Tryd.ntmps32
    go_wp2_with fail
    go_ret
    exact ⟨ret_str' HE.out.symm, (Below.refl _ _).alloc (Nat.le_refl _) _⟩
  · have HE : Hid (textB (.node 2 name ts) = ⟨#[48]⟩) := by show _ = _; simp [textB]
    clear h4 h5 h7
    go_enter Tryd.func32, Tryd.ntmps32
    go_wp2_with fail
    go_ret
    exact ⟨ret_str' HE.out.symm, (Below.refl _ _).alloc (Nat.le_refl _) _⟩
  · have HE : Hid (textB (.node 3 name ts) = name) := by show _ = _; simp [textB]
    clear h4 h5 h7
    go_enter Tryd.func32, Tryd.ntmps32
    go_wp2_with fail
    go_ret
    exact ⟨ret_str' HE.out.symm, (Below.refl _ _).alloc (Nat.le_refl _) _⟩
  · obtain ⟨t, rfl⟩ : ∃ t, ts = [t] := List.length_eq_one_iff.1 (h4 rfl)
    have HE : Hid (textB (.node 4 name [t]) = ⟨#[126]⟩ ++ partB (textB t) (strengthI t) 5) := by show _ = _; simp [textB, textsB]
    have ht := hidIt (IHH.out t (by simp))
    have hts := HSZH.out t (by simp)
    have hps := partB_size (textB t) (strengthI t) 5
    obtain ⟨b', off', a', c', rfl, c0, c1, c2, hf⟩ := HFS.out.at 0 (by simp)
    simp only [List.getElem_cons_zero] at c0 c1 c2 hf
    have HF := hidIt hf
    have hbl := World.block_lt_of_cell? w ⟨b', off' + 0 * 3, none⟩ c0
    simp only [Nat.zero_mul, Nat.add_zero, List.length_singleton] at c0 c1 c2 hbl hlen'
    have h01 : ([t] : List Tree).length = 1 := rfl
    rw [h01]
    clear hf h4 h5 h7
    go_enter Tryd.func32, Tryd.ntmps32
    go_wp2_with fail
    refine (qargument_any t ht.out hts _ 5 (by omega) (by omega) _ (HF.out.go ((Below.refl _ _).alloc (Nat.le_refl _) _))).mono ?_
    rintro e w' ⟨rfl, hb⟩
    have HB := hidIt (below_box hb)
    clear hb
    go_wp2_with fail
    go_ret
    exact ⟨ret_str' HE.out.symm, HB.out⟩
  · have HE : Hid (textB (.node 5 name ts) = joinB ⟨#[32, 38, 32]⟩ (textsB 5 ts)) := by show _ = _; simp [textB]
    have hone : 1 ≤ ts.length := by have := h5 (by simp); omega
    clear h4 h5 h7
    go_enter Tryd.func32, Tryd.ntmps32
    go_wp2_with fail
    refine (qjoined_any ⟨#[32, 38, 32]⟩ (by decide) 5 (by omega) (by omega) ts IHH.out HSZH.out hone (by omega) a cap _ (HFS.out.go ((Below.refl _ _).alloc (Nat.le_refl _) _))).mono ?_
    rintro e w' ⟨rfl, hb⟩
    have HB := hidIt (below_box hb)
    clear hb
    go_wp2_with fail
    go_ret
    exact ⟨ret_str' HE.out.symm, HB.out⟩
  · have HE : Hid (textB (.node 6 name ts) = joinB ⟨#[32, 124, 32]⟩ (textsB 4 ts)) := by show _ = _; simp [textB]
    have hone : 1 ≤ ts.length := by have := h5 (by simp); omega
    clear h4 h5 h7
    go_enter Tryd.func32, Tryd.ntmps32
    go_wp2_with fail
    refine (qjoined_any ⟨#[32, 124, 32]⟩ (by decide) 4 (by omega) (by omega) ts IHH.out HSZH.out hone (by omega) a cap _ (HFS.out.go ((Below.refl _ _).alloc (Nat.le_refl _) _))).mono ?_
    rintro e w' ⟨rfl, hb⟩
    have HB := hidIt (below_box hb)
    clear hb
    go_wp2_with fail
    go_ret
    exact ⟨ret_str' HE.out.symm, HB.out⟩
  · obtain ⟨t, u, rfl⟩ : ∃ t u, ts = [t, u] := len_two (h7 (.inl rfl))
    have HE : Hid (textB (.node 7 name [t, u]) = partB (textB t) (strengthI t) 3 ++ ⟨#[32, 45, 62, 32]⟩ ++ partB (textB u) (strengthI u) 2) := by show _ = _; simp [textB, textsB]
    have ht := hidIt (IHH.out t (by simp))
    have hts := HSZH.out t (by simp)
    have hps := partB_size (textB t) (strengthI t) 3
    have hu := hidIt (IHH.out u (by simp))
    have hus := HSZH.out u (by simp)
    have hpu := partB_size (textB u) (strengthI u) 2
    obtain ⟨b', off', a', c', rfl, c0, c1, c2, hf⟩ := HFS.out.at 0 (by simp)
    obtain ⟨b2, off2, a2, c2', e2, d0, d1, d2, hf2⟩ := HFS.out.at 1 (by simp)
    obtain ⟨rfl, rfl⟩ : b2 = b' ∧ off2 = off' := by
      injection e2 with e2
      injection e2 with e3 e4
      exact ⟨e3.symm, e4.symm⟩
    simp only [List.getElem_cons_zero, List.getElem_cons_succ] at c0 c1 c2 hf d0 d1 d2 hf2
    simp only [Nat.zero_mul, Nat.add_zero, Nat.one_mul] at c0 c1 c2 d0 d1 d2
    simp only [List.length_cons, List.length_nil] at hlen'
    have h01 : ([t, u] : List Tree).length = 2 := rfl
    rw [h01]
    have HBX : Hid (Below w.heap.size w (w.alloc (.cells #[.int .i64 7, .string name, .slice (some ⟨b2, off2, none⟩) 2 cap] 24))) := (Below.refl _ _).alloc (Nat.le_refl _) _
    have hbl := World.block_lt_of_cell? w ⟨b2, off2, none⟩ c0
    have k2 : (w.alloc (.cells #[.int .i64 7, .string name, .slice (some ⟨b2, off2, none⟩) 2 cap] 24)).cell? ⟨w.heap.size, 2, none⟩ = some (.slice (some ⟨b2, off2, none⟩) 2 cap) := (cell_of3 (heap_alloc_new w _)).2.2
    rw [← HBX.out.cell (p := ⟨b2, off2, none⟩) hbl] at c0
    rw [← HBX.out.cell (p := ⟨b2, off2 + 1, none⟩) hbl] at c1
    rw [← HBX.out.cell (p := ⟨b2, off2 + 2, none⟩) hbl] at c2
    rw [← HBX.out.cell (p := ⟨b2, off2 + 3, none⟩) hbl] at d0
    rw [← HBX.out.cell (p := ⟨b2, off2 + 3 + 1, none⟩) hbl] at d1
    rw [← HBX.out.cell (p := ⟨b2, off2 + 3 + 2, none⟩) hbl] at d2
    have HF := hidIt (hf.go HBX.out)
    have HF2 := hidIt (hf2.go HBX.out)
    have K0 := fun y => Ext.cell c0 y
    have K1 := fun y => Ext.cell c1 y
    have K2 := fun y => Ext.cell c2 y
    have L0 := fun y => Ext.cell d0 y
    have L1 := fun y => Ext.cell d1 y
    have L2 := fun y => Ext.cell d2 y
    have M2 := fun y => Ext.cell k2 y
    clear hf hf2 h4 h5 h7 c0 c1 c2 d0 d1 d2 k2 e2
    go_enter Tryd.func32, Tryd.ntmps32
    go_wp2_with fail
    generalize (w.alloc (.cells #[.int .i64 7, .string name, .slice (some ⟨b2, off2, none⟩) 2 cap] 24)) = W at *
    haveI := Ext.nonempty W
    refine wp_region_in (Ext W) (by kernel_rfl) (by kernel_rfl) (Ext.start W) ?_
    repeat (go_big_quiet_step (first
      | (with_reducible (refine Ext.call (qargument_any t ht.out hts _ 3 (by omega) (by omega) _ (FormAt.go HF.out (In.h _)))))
      | (with_reducible (refine Ext.call (qargument_any u hu.out hus _ 2 (by omega) (by omega) _ (FormAt.go HF2.out (In.h _)))))))
    refine wpQuiet_nil ?_
    rintro w5 ⟨⟨_, h5⟩, rfl⟩
    have HB5 : Hid (Below w.heap.size w w5) := HBX.out.trans (Below.mono h5 HBX.out.size)
    clear h5 K0 K1 K2 L0 L1 L2 M2
    go_wp2_with fail
    go_ret
    exact ⟨ret_str' HE.out.symm, HB5.out⟩
  · have HE : Hid (textB (.node 8 name ts) = joinB ⟨#[32, 60, 45, 62, 32]⟩ (textsB 2 ts)) := by show _ = _; simp [textB]
    have hone : 1 ≤ ts.length := by have := h7 (by simp); omega
    clear h4 h5 h7
    go_enter Tryd.func32, Tryd.ntmps32
    go_wp2_with fail
    refine (qjoined_any ⟨#[32, 60, 45, 62, 32]⟩ (by decide) 2 (by omega) (by omega) ts IHH.out HSZH.out hone (by omega) a cap _ (HFS.out.go ((Below.refl _ _).alloc (Nat.le_refl _) _))).mono ?_
    rintro e w' ⟨rfl, hb⟩
    have HB := hidIt (below_box hb)
    clear hb
    go_wp2_with fail
    go_ret
    exact ⟨ret_str' HE.out.symm, HB.out⟩
end Go.Proofs.YtpiiadmjddikfaaDoor
