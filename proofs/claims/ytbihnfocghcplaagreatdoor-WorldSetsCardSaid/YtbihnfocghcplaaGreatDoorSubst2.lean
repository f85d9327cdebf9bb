/- formula.Substitute, for every formula. -/
import Derived.Test.YtbihnfocghcplaaGreatDoorLemmaM
namespace Go.Proofs.YtbihnfocghcplaaGreatDoor
set_option linter.unusedVariables false
set_option linter.unusedSimpArgs false
open Go Go.RowKit

/-- Does the formula count as an atom? -/
def atomB (t : Tree) : Bool := decide (t.op = 3) && decide (t.args.length = 0)

set_option maxHeartbeats 400000 in
theorem isAtom_any (t : Tree) (v : Value) (w : World) (h : FormAt w none v t) :
    Calls Tryz.prog 49 #[v] w fun e w' => e = .returned (.bool (atomB t)) ∧ Below w.heap.size w w' := by
  obtain ⟨a, cap, b, off, rfl, hop, hname, hlen, hcap, -, -⟩ := h.form
  unfold maxLen at hcap
  have HA : Hid (atomB t = (decide (t.op = 3) && decide (t.args.length = 0))) := rfl
  generalize t.op = op at *
  generalize t.name = name at *
  generalize t.args.length = n at *
  have HB : Hid (Below w.heap.size w (w.alloc (.cells #[.int .i64 op, .string name, .slice a n cap] 24))) := Grows.alloc _ _
  clear h
  by_cases ho : op = 3
  · subst ho
    by_cases hl : n = 0
    · subst hl
      go_enter Tryz.func49, Tryz.ntmps49
      go_wp2_with fail
      go_ret
      exact ⟨ret_bool (by rw [HA.out]; rfl), HB.out⟩
    · have hz : (((n : Int) == 0) : Bool) = false := by simp; omega
      go_enter Tryz.func49, Tryz.ntmps49
      go_wp2_with fail
      go_ret
      exact ⟨ret_bool (by rw [HA.out]; simp [hl]), HB.out⟩
  · have hz : ((op == 3) : Bool) = false := by simpa using ho
    go_enter Tryz.func49, Tryz.ntmps49
    go_wp2_with fail
    go_ret
    exact ⟨ret_bool (by rw [HA.out]; simp [ho]), HB.out⟩

theorem enters_subst1 : Enters 61 := enters_of Tryz.func61 (by kernel_rfl) rfl

/-- What Substitute answers at t. -/
def SubstOk (p : ByteArray) (g : Tree) (t : Tree) : Prop := ∀ (v vg : Value) (w : World), FormAt w none v t → FormAt w none vg g → Calls Tryz.prog 19 #[v, .string p, vg] w (FMade w (substT p g t))

set_option maxRecDepth 100000 in
set_option maxHeartbeats 1000000 in
theorem subst1_any (p : ByteArray) (g t : Tree) (ht : SubstOk p g t) (v : Value) (w : World) (hv : FormAt w none v t) (pn pg : Nat) {o : Int} {s : ByteArray} {a : Option Addr} {n c : Nat} (hpn : w.heap[pn]? = some (.cells #[.string p] 9 (0, 0))) (hpg : w.heap[pg]? = some (.cells #[.int .i64 o, .string s, .slice a n c] 24 (0, 0)))
    (hg : FormAt w none (.agg #[.int .i64 o, .string s, .slice a n c]) g) :
    Calls Tryz.prog 61 #[v, .pointer (some ⟨pn, 0, none⟩), .pointer (some ⟨pg, 0, none⟩)] w (FMade w (substT p g t)) := by
  have HV0 := hidIt hv
  obtain ⟨a', cap, b, off, rfl, -⟩ := hv.form
  have HT := hidIt ht
  have HG := hidIt hg
  generalize t.op = op at *
  generalize t.name = name at *
  generalize t.args.length = m at *
  have HB0 : Hid (Below w.heap.size w ((w.alloc (.cells #[.int .i64 op, .string name, .slice a' m cap] 24)).alloc (.cells #[.int .i64 0, .string ⟨#[]⟩, .slice none 0 0] 24))) := ((Below.refl _ _).alloc (Nat.le_refl _) _).alloc (by simp) _
  have HY0 : Hid (((w.alloc (.cells #[.int .i64 op, .string name, .slice a' m cap] 24)).alloc (.cells #[.int .i64 0, .string ⟨#[]⟩, .slice none 0 0] 24)).heap[w.heap.size + 1]? = some (.cells #[.int .i64 0, .string ⟨#[]⟩, .slice none 0 0] 24 (0, 0))) := heap_alloc_at (by simp)
  have hlpn := lt_of_block hpn
  have hlpg := lt_of_block hpg
  have n0 := cell_one0 (blk_kept hpn HB0.out)
  obtain ⟨g0, g1, g2⟩ := cell_of3 (blk_kept hpg HB0.out)
  clear hv ht hg hpn hpg
  go_enter Tryz.func61, Tryz.ntmps61
  go_wp2_with fail
  refine (HT.out _ _ _ (FormAt.go HV0.out HB0.out) (FormAt.go HG.out HB0.out)).mono ?_
  rintro e w2 ⟨ro, rs, ra, rn, rc, rfl, hf2, hb2⟩
  have HF2 := hidIt hf2
  have HB2 := hidIt hb2
  have HY2 := hidIt (blk_kept HY0.out hb2)
  obtain ⟨y0, y1, y2⟩ := cell_of3 HY2.out
  obtain ⟨z0, z1, z2⟩ := cells_free HY2.out
  have hly := lt_of_block HY2.out
  clear hf2 hb2
  go_wp2_with fail
  refine bodyPost_ret (v := .agg #[.int .i64 ro, .string rs, .slice ra rn rc]) (by simp [results, Tryz.results61, go_sem, y0, y1, y2, hly]) rfl ?_
  exact FMade.stored HB0.out (by omega) (by simp) HF2.out HB2.out

set_option maxRecDepth 100000 in
set_option maxHeartbeats 2000000 in
theorem subst_any (p : ByteArray) (g : Tree) (hgn : g.nodes ≤ 1000000) : ∀ t : Tree, t.nodes ≤ 1000000 → SubstOk p g t := by
  refine Tree.ind fun op name ts ih hn v vg w h hg => ?_
  obtain ⟨a, cp, b, off, rfl, -⟩ := h.form
  obtain ⟨ga, gc, gb, goff, rfl, -⟩ := hg.form
  simp only [Tree.op_node, Tree.name_node, Tree.args_node] at *
  have hnodes : ∀ t ∈ ts, t.nodes ≤ 1000000 := fun t ht => by
    have := nodes_mem_le ht
    simp only [Tree.nodes] at hn
    omega
  have hl : ts.length ≤ 1000000 := by
    have := nodes_len_le ts
    simp only [Tree.nodes] at hn
    omega
  have HIH : Hid (∀ t ∈ ts, SubstOk p g t) := fun t ht => ih t ht (hnodes t ht)
  have HH := hidIt h
  have HG := hidIt hg
  have HGN := hidIt hgn
  have HST := hidIt (substT_node p g op name ts)
  have HAT : Hid (atomB (.node op name ts) = (decide (op = 3) && decide (ts.length = 0))) := rfl
  generalize g.op = go at *
  generalize g.name = gs at *
  generalize g.args.length = gn at *
  clear ih h hg hnodes hn hgn
  go_enter Tryz.func19, Tryz.ntmps19
  go_wp2_with fail
  have HB0 : Hid (Below w.heap.size w ((((w.alloc (.cells #[.int .i64 op, .string name, .slice a ts.length cp] 24)).alloc (.cells #[.string p] 9)).alloc (.cells #[.int .i64 go, .string gs, .slice ga gn gc] 24)).alloc (.cells #[.int .i64 0, .string ⟨#[]⟩, .slice none 0 0] 24))) := ((((Below.refl _ _).alloc (Nat.le_refl _) _).alloc (by simp) _).alloc (by simp; omega) _).alloc (by simp; omega) _
  have HX0 : Hid (((((w.alloc (.cells #[.int .i64 op, .string name, .slice a ts.length cp] 24)).alloc (.cells #[.string p] 9)).alloc (.cells #[.int .i64 go, .string gs, .slice ga gn gc] 24)).alloc (.cells #[.int .i64 0, .string ⟨#[]⟩, .slice none 0 0] 24)).heap[w.heap.size]? = some (.cells #[.int .i64 op, .string name, .slice a ts.length cp] 24 (0, 0))) := blk_kept (blk_kept (blk_kept (heap_alloc_new w _) (Grows.alloc _ _)) (Grows.alloc _ _)) (Grows.alloc _ _)
  have HN0 : Hid (((((w.alloc (.cells #[.int .i64 op, .string name, .slice a ts.length cp] 24)).alloc (.cells #[.string p] 9)).alloc (.cells #[.int .i64 go, .string gs, .slice ga gn gc] 24)).alloc (.cells #[.int .i64 0, .string ⟨#[]⟩, .slice none 0 0] 24)).heap[w.heap.size + 1]? = some (.cells #[.string p] 9 (0, 0))) := blk_kept (blk_kept (heap_alloc_at (by simp)) (Grows.alloc _ _)) (Grows.alloc _ _)
  have HV0 : Hid (((((w.alloc (.cells #[.int .i64 op, .string name, .slice a ts.length cp] 24)).alloc (.cells #[.string p] 9)).alloc (.cells #[.int .i64 go, .string gs, .slice ga gn gc] 24)).alloc (.cells #[.int .i64 0, .string ⟨#[]⟩, .slice none 0 0] 24)).heap[w.heap.size + 1 + 1]? = some (.cells #[.int .i64 go, .string gs, .slice ga gn gc] 24 (0, 0))) := blk_kept (heap_alloc_at (by simp)) (Grows.alloc _ _)
  have HY0 : Hid (((((w.alloc (.cells #[.int .i64 op, .string name, .slice a ts.length cp] 24)).alloc (.cells #[.string p] 9)).alloc (.cells #[.int .i64 go, .string gs, .slice ga gn gc] 24)).alloc (.cells #[.int .i64 0, .string ⟨#[]⟩, .slice none 0 0] 24)).heap[w.heap.size + 1 + 1 + 1]? = some (.cells #[.int .i64 0, .string ⟨#[]⟩, .slice none 0 0] 24 (0, 0))) := heap_alloc_at (by simp)
  have hsz0 : w.heap.size + 1 + 1 + 1 < ((((w.alloc (.cells #[.int .i64 op, .string name, .slice a ts.length cp] 24)).alloc (.cells #[.string p] 9)).alloc (.cells #[.int .i64 go, .string gs, .slice ga gn gc] 24)).alloc (.cells #[.int .i64 0, .string ⟨#[]⟩, .slice none 0 0] 24)).heap.size := by simp
  generalize ((((w.alloc (.cells #[.int .i64 op, .string name, .slice a ts.length cp] 24)).alloc (.cells #[.string p] 9)).alloc (.cells #[.int .i64 go, .string gs, .slice ga gn gc] 24)).alloc (.cells #[.int .i64 0, .string ⟨#[]⟩, .slice none 0 0] 24)) = W0 at *
  refine (isAtom_any _ _ W0 (FormAt.go HH.out HB0.out)).mono ?_
  rintro e w2 ⟨rfl, hb2⟩
  have HB2 := hidIt (HB0.out.trans (hb2.mono HB0.out.size))
  have HX2 := hidIt (blk_kept HX0.out hb2)
  have HN2 := hidIt (blk_kept HN0.out hb2)
  have HV2 := hidIt (blk_kept HV0.out hb2)
  have HY2 := hidIt (blk_kept HY0.out hb2)
  have HF2 := hidIt (FormAt.go HH.out HB2.out)
  have HG2 := hidIt (FormAt.go HG.out HB2.out)
  have hsz2 : w.heap.size + 1 + 1 + 1 < w2.heap.size := Nat.lt_of_lt_of_le hsz0 hb2.size
  obtain ⟨x0, x1, x2⟩ := cell_of3 HX2.out
  have n0 := cell_one0 HN2.out
  obtain ⟨v0, v1, v2⟩ := cell_of3 HV2.out
  obtain ⟨y0, y1, y2⟩ := cell_of3 HY2.out
  obtain ⟨z0, z1, z2⟩ := cells_free HY2.out
  have hlx := lt_of_block HX2.out
  have hln := lt_of_block HN2.out
  have hlv := lt_of_block HV2.out
  have hly := lt_of_block HY2.out
  clear HX0 HN0 HV0 HY0 hb2 HB0 HH HG
  cases hat : atomB (.node op name ts)
  · have HC : Hid (¬ (op = 3 ∧ ts.length = 0 ∧ name = p)) := fun hc => by
      rw [hat] at HAT
      have := HAT.out
      rw [hc.1, hc.2.1] at this
      cases this
    clear hat HAT
    go_wp2_with fail
    refine (withArgs_any 61 #[.pointer (some ⟨w.heap.size + 1, 0, none⟩), .pointer (some ⟨w.heap.size + 1 + 1, 0, none⟩)] enters_subst1 (substT p g) op name ts a cp hl w2 HF2.out (fun t ht v w' hb hf => ?_)).mono ?_
    · exact subst1_any p g t (HIH.out t ht) v w' hf _ _ (blk_kept HN2.out hb) (blk_kept HV2.out hb) (FormAt.go HG2.out hb)
    rintro e w3 ⟨ro, rs, ra, rn, rc, rfl, hf3, hb3⟩
    have HF3 := hidIt hf3
    have HB3 := hidIt hb3
    have HY3 := hidIt (blk_kept HY2.out hb3)
    have hne : Hid (substT p g (.node op name ts) = .node op name (ts.map (substT p g))) := by show _ = _; rw [HST.out, if_neg HC.out]
    clear hf3 hb3 x0 x1 x2 n0 v0 v1 v2 y0 y1 y2 z0 z1 z2 hly
    obtain ⟨y0, y1, y2⟩ := cell_of3 HY3.out
    obtain ⟨z0, z1, z2⟩ := cells_free HY3.out
    have hly := lt_of_block HY3.out
    go_wp2_with fail
    refine bodyPost_ret (v := .agg #[.int .i64 ro, .string rs, .slice ra rn rc]) (by simp [results, Tryz.results19, go_sem, y0, y1, y2, hly]) rfl ?_
    rw [hne.out]
    exact FMade.stored HB2.out (by omega) hsz2 HF3.out HB3.out
  · have HC : Hid (op = 3 ∧ ts.length = 0) := by
      have := HAT.out
      rw [hat] at this
      have h2 := this.symm
      rw [Bool.and_eq_true, decide_eq_true_eq, decide_eq_true_eq] at h2
      exact h2
    clear hat HAT
    cases hs : (name.toList == p.toList)
    · have HS : Hid (¬ (op = 3 ∧ ts.length = 0 ∧ name = p)) := fun hc => by
        rw [hc.2.2] at hs
        simp at hs
      go_wp2_with fail
      refine (withArgs_any 61 #[.pointer (some ⟨w.heap.size + 1, 0, none⟩), .pointer (some ⟨w.heap.size + 1 + 1, 0, none⟩)] enters_subst1 (substT p g) op name ts a cp hl w2 HF2.out (fun t ht v w' hb hf => ?_)).mono ?_
      · exact subst1_any p g t (HIH.out t ht) v w' hf _ _ (blk_kept HN2.out hb) (blk_kept HV2.out hb) (FormAt.go HG2.out hb)
      rintro e w3 ⟨ro, rs, ra, rn, rc, rfl, hf3, hb3⟩
      have HF3 := hidIt hf3
      have HB3 := hidIt hb3
      have HY3 := hidIt (blk_kept HY2.out hb3)
      have hne : Hid (substT p g (.node op name ts) = .node op name (ts.map (substT p g))) := by show _ = _; rw [HST.out, if_neg HS.out]
      clear hf3 hb3 x0 x1 x2 n0 v0 v1 v2 y0 y1 y2 z0 z1 z2 hly
      obtain ⟨y0, y1, y2⟩ := cell_of3 HY3.out
      obtain ⟨z0, z1, z2⟩ := cells_free HY3.out
      have hly := lt_of_block HY3.out
      go_wp2_with fail
      refine bodyPost_ret (v := .agg #[.int .i64 ro, .string rs, .slice ra rn rc]) (by simp [results, Tryz.results19, go_sem, y0, y1, y2, hly]) rfl ?_
      rw [hne.out]
      exact FMade.stored HB2.out (by omega) hsz2 HF3.out HB3.out
    · have HS : Hid (substT p g (.node op name ts) = g) := by
        have h1 := eq_of_beq hs
        rw [Lib.toList_data, Lib.toList_data] at h1
        have h2 : name = p := bytes_inj h1
        show _ = _
        rw [HST.out, if_pos ⟨HC.out.1, HC.out.2, h2⟩]
      go_wp2_with fail
      refine (clone_any g HGN.out _ w2 HG2.out).mono ?_
      rintro e w3 ⟨ro, rs, ra, rn, rc, rfl, hf3, hb3⟩
      have HF3 := hidIt hf3
      have HB3 := hidIt hb3
      have HY3 := hidIt (blk_kept HY2.out hb3)
      clear hf3 hb3 x0 x1 x2 n0 v0 v1 v2 y0 y1 y2 z0 z1 z2 hly
      obtain ⟨y0, y1, y2⟩ := cell_of3 HY3.out
      obtain ⟨z0, z1, z2⟩ := cells_free HY3.out
      have hly := lt_of_block HY3.out
      go_wp2_with fail
      refine bodyPost_ret (v := .agg #[.int .i64 ro, .string rs, .slice ra rn rc]) (by simp [results, Tryz.results19, go_sem, y0, y1, y2, hly]) rfl ?_
      rw [HS.out]
      exact FMade.stored HB2.out (by omega) hsz2 HF3.out HB3.out
end Go.Proofs.YtbihnfocghcplaaGreatDoor
