/- append of a row that came in to an empty row; the reference's Copy, for every rule base. The reference's Copy, for every rule base. -/
import Derived.Test.YtiffcdhiejmbdaaGreatDoorZ1T

namespace Go.Proofs.YtiffcdhiejmbdaaGreatDoor
set_option linter.unusedVariables false
set_option linter.unusedSimpArgs false
open Go Go.RowKit
theorem run_append_none5 {P : Program} {w : World} (t ty e : TypeId) (i : TypeInfo) (ht : P.underlying t = some (.slice e)) (hi : P.info? e = some i) (g c0 c : Nat) :
    (Builtin.append_ #[t, t] ty #[.slice (some ⟨g, 0, none⟩) 0 c0, .slice none 0 c]).run P w = .ok (.slice (some ⟨g, 0, none⟩) 0 c0) w := by
  simp [Builtin.append_, run_underlying ht, sizeOf, typeInfo, hi, Builtin.lenOf, Builtin.firstCells, storeCells]

theorem run_appPm {w : World} (ty : TypeId) (B g : Nat) (hg : w.heap[g]? = some (.cells #[] 78 (0, 0))) (hBg : B ≤ g) {v : Value} {ps : List Pm} (hv : PmsAt w v ps) (hn : ps.length ≤ 1000000) :
    ∃ v' w', (Builtin.append_ #[22, 22] ty #[.slice (some ⟨g, 0, none⟩) 0 0, v]).run Tryz.prog w = .ok v' w' ∧ w'.ownsRow B 78 5 v' ps.length (ps.flatMap encPm) ∧ Below w.heap.size w w' := by
  obtain ⟨a, c, rfl, hl, hc, hrow⟩ := RowIn.form hv
  cases a with
  | none =>
    have h0 : ps.length = 0 := by
      rcases Nat.eq_zero_or_pos ps.length with h | h
      · exact h
      · obtain ⟨b, off, e, -⟩ := hrow 0 h
        cases e
    obtain rfl := List.eq_nil_of_length_eq_zero h0
    obtain ⟨i, z, hi, hz, hk, hb, hzc⟩ := elemPm.info
    have hown : w.ownsRow B 78 5 (.slice (some ⟨g, 0, none⟩) 0 0) 0 [] := ⟨by simp, .inr ⟨g, 0, #[], rfl, hBg, hg, Nat.le_refl _, Nat.zero_le _, by simp, by simp⟩⟩
    refine ⟨_, w, ?_, hown, Below.refl _ _⟩
    obtain ⟨n0, c0, he⟩ : ∃ n0 c0, (Value.slice none ([] : List Pm).length c) = .slice none n0 c0 := ⟨_, _, rfl⟩
    exact run_append_none5 (P := Tryz.prog) (w := w) 22 ty 78 i elemPm.und hi _ 0 c
  | some x =>
    have hnews : ∀ j u, (ps.flatMap encPm)[j]? = some u → w.cell? (x.add j) = some u := fun j u hj => by
      have hjl : j < ps.length * 5 := by
        have := (List.getElem?_eq_some_iff.1 hj).1
        rw [flat_length encPm 5 (fun _ => rfl) ps] at this
        exact this
      have hi : j / 5 < ps.length := by omega
      obtain ⟨b, off, ex, hbl, c0, c1, c2, c3, c4⟩ := hrow (j / 5) hi
      injection ex with ex
      have he : j = j / 5 * 5 + j % 5 := by omega
      rw [he, flat_get encPm 5 (fun _ => rfl) ps (j / 5) (j % 5) hi (Nat.mod_lt _ (by decide))] at hj
      have hx : x.add j = ⟨b, off + j, none⟩ := by rw [ex]; exact add_plain5 _ _ _
      rw [hx]
      have hr : j % 5 < 5 := Nat.mod_lt _ (by decide)
      generalize j % 5 = r at he hj hr
      generalize j / 5 = i at *
      subst he
      rw [← Nat.add_assoc]
      have hr' : r = 0 ∨ r = 1 ∨ r = 2 ∨ r = 3 ∨ r = 4 := by omega
      rcases hr' with rfl | rfl | rfl | rfl | rfl
      all_goals (simp [encPm] at hj; subst hj; assumption)
    exact run_append0 elemPm ty B g hg hBg x ps.length c (ps.flatMap encPm) (flat_length encPm 5 (fun _ => rfl) ps) hnews (one_pm ps) hn

theorem run_appPr {w : World} (ty : TypeId) (B g : Nat) (hg : w.heap[g]? = some (.cells #[] 80 (0, 0))) (hBg : B ≤ g) {v : Value} {ps : List Pr} (hv : PrsAt w v ps) (hn : ps.length ≤ 1000000) :
    ∃ v' w', (Builtin.append_ #[24, 24] ty #[.slice (some ⟨g, 0, none⟩) 0 0, v]).run Tryz.prog w = .ok v' w' ∧ w'.ownsRow B 80 4 v' ps.length (ps.flatMap encPr) ∧ Below w.heap.size w w' := by
  obtain ⟨a, c, rfl, hl, hc, hrow⟩ := RowIn.form hv
  cases a with
  | none =>
    have h0 : ps.length = 0 := by
      rcases Nat.eq_zero_or_pos ps.length with h | h
      · exact h
      · obtain ⟨b, off, e, -⟩ := hrow 0 h
        cases e
    obtain rfl := List.eq_nil_of_length_eq_zero h0
    obtain ⟨i, z, hi, hz, hk, hb, hzc⟩ := elemPr.info
    have hown : w.ownsRow B 80 4 (.slice (some ⟨g, 0, none⟩) 0 0) 0 [] := ⟨by simp, .inr ⟨g, 0, #[], rfl, hBg, hg, Nat.le_refl _, Nat.zero_le _, by simp, by simp⟩⟩
    refine ⟨_, w, ?_, hown, Below.refl _ _⟩
    obtain ⟨n0, c0, he⟩ : ∃ n0 c0, (Value.slice none ([] : List Pr).length c) = .slice none n0 c0 := ⟨_, _, rfl⟩
    exact run_append_none5 (P := Tryz.prog) (w := w) 24 ty 80 i elemPr.und hi _ 0 c
  | some x =>
    have hnews : ∀ j u, (ps.flatMap encPr)[j]? = some u → w.cell? (x.add j) = some u := fun j u hj => by
      have hjl : j < ps.length * 4 := by
        have := (List.getElem?_eq_some_iff.1 hj).1
        rw [flat_length encPr 4 (fun _ => rfl) ps] at this
        exact this
      have hi : j / 4 < ps.length := by omega
      obtain ⟨b, off, ex, hbl, c0, c1, c2, c3⟩ := hrow (j / 4) hi
      injection ex with ex
      have he : j = j / 4 * 4 + j % 4 := by omega
      rw [he, flat_get encPr 4 (fun _ => rfl) ps (j / 4) (j % 4) hi (Nat.mod_lt _ (by decide))] at hj
      have hx : x.add j = ⟨b, off + j, none⟩ := by rw [ex]; exact add_plain5 _ _ _
      rw [hx]
      have hr : j % 4 < 4 := Nat.mod_lt _ (by decide)
      generalize j % 4 = r at he hj hr
      generalize j / 4 = i at *
      subst he
      rw [← Nat.add_assoc]
      have hr' : r = 0 ∨ r = 1 ∨ r = 2 ∨ r = 3 := by omega
      rcases hr' with rfl | rfl | rfl | rfl
      all_goals (simp [encPr] at hj; subst hj; assumption)
    exact run_append0 elemPr ty B g hg hBg x ps.length c (ps.flatMap encPr) (flat_length encPr 4 (fun _ => rfl) ps) hnews (one_pr ps) hn

theorem run_appLt {w : World} (ty : TypeId) (B g : Nat) (hg : w.heap[g]? = some (.cells #[] 28 (0, 0))) (hBg : B ≤ g) {v : Value} {ps : List Lt} (hv : BodyAt w v ps) (hn : ps.length ≤ 1000000) :
    ∃ v' w', (Builtin.append_ #[56, 56] ty #[.slice (some ⟨g, 0, none⟩) 0 0, v]).run Tryz.prog w = .ok v' w' ∧ OwnL w' B v' ps ∧ Below w.heap.size w w' := by
  obtain ⟨a, c, rfl, hl, hc, hrow⟩ := BodyAt.form hv
  cases a with
  | none =>
    have h0 : ps.length = 0 := by
      rcases Nat.eq_zero_or_pos ps.length with h | h
      · exact h
      · obtain ⟨b, off, e, -⟩ := hrow 0 h
        cases e
    obtain rfl := List.eq_nil_of_length_eq_zero h0
    obtain ⟨i, z, hi, hz, hk, hb, hzc⟩ := elemLit.info
    have hown : w.ownsRow B 28 2 (.slice (some ⟨g, 0, none⟩) 0 0) 0 [] := ⟨by simp, .inr ⟨g, 0, #[], rfl, hBg, hg, Nat.le_refl _, Nat.zero_le _, by simp, by simp⟩⟩
    refine ⟨_, w, ?_, (show OwnL w B _ [] by unfold OwnL; rw [flatL_nil]; exact hown), Below.refl _ _⟩
    obtain ⟨n0, c0, he⟩ : ∃ n0 c0, (Value.slice none ([] : List Lt).length c) = .slice none n0 c0 := ⟨_, _, rfl⟩
    exact run_append_none5 (P := Tryz.prog) (w := w) 56 ty 28 i elemLit.und hi _ 0 c
  | some x =>
    have hnews : ∀ j u, (flatL ps)[j]? = some u → w.cell? (x.add j) = some u := fun j u hj => by
      have hjl : j < ps.length * 2 := by
        have := (List.getElem?_eq_some_iff.1 hj).1
        rw [flatL_len ps] at this
        exact this
      have hi : j / 2 < ps.length := by omega
      obtain ⟨b, off, ex, hbl, c0, c1⟩ := hrow (j / 2) hi
      injection ex with ex
      have he : j = j / 2 * 2 + j % 2 := by omega
      rw [he, flatL_eq, flat_get encL 2 encL_len ps (j / 2) (j % 2) hi (Nat.mod_lt _ (by decide))] at hj
      have hx : x.add j = ⟨b, off + j, none⟩ := by rw [ex]; exact add_plain5 _ _ _
      rw [hx]
      have hr : j % 2 < 2 := Nat.mod_lt _ (by decide)
      generalize j % 2 = r at he hj hr
      generalize j / 2 = i at *
      subst he
      rw [← Nat.add_assoc]
      have hr' : r = 0 ∨ r = 1 := by omega
      rcases hr' with rfl | rfl
      all_goals (simp [encL] at hj; subst hj; assumption)
    exact run_append0 elemLit ty B g hg hBg x ps.length c (flatL ps) (flatL_len ps) hnews (flat_one5 ps) hn

/-- Copy under way. -/
structure Cp (w : World) (cs : Array Value) (R : Nat) (b : Bs) (m : Nat) (wr : World) (pv rv qv : Value) (vs : List Value) : Prop where
  box : wr.heap[R]? = some (.cells #[pv, rv, qv] 26 (0, 0))
  src : wr.heap[w.heap.size]? = some (.cells cs 26 (0, 0))
  res : wr.heap[w.heap.size + 1]? = some (.cells #[.slice none 0 0, .slice none 0 0, .slice none 0 0] 26 (0, 0))
  lo : w.heap.size + 2 ≤ R
  p5 : OwnPm wr w.heap.size pv b.prems
  q5 : OwnPr wr w.heap.size qv b.proms
  len : vs.length = m
  le : m ≤ b.rules.length
  r5 : wr.ownsRow w.heap.size 72 6 rv m (((b.rules.take m).zip vs).flatMap fun x => encRu x.1 x.2)
  bod : ∀ i (h : i < vs.length) (h' : i < b.rules.length), OwnL wr w.heap.size vs[i] b.rules[i].body
  bel : Below w.heap.size w wr
section
variable {w wr w' : World} {cs : Array Value} {R m : Nat} {b : Bs} {pv rv qv : Value} {vs : List Value}
theorem Cp.more (h : Cp w cs R b m wr pv rv qv vs) (hb : Below wr.heap.size wr w') : Cp w cs R b m w' pv rv qv vs :=
  ⟨blk_kept2 h.box hb, blk_kept2 h.src hb, blk_kept2 h.res hb, h.lo, owns_kept h.p5 fun g e => hb.block g (owns_blk h.p5 g e).2, owns_kept h.q5 fun g e => hb.block g (owns_blk h.q5 g e).2, h.len, h.le, owns_kept h.r5 fun g e => hb.block g (owns_blk h.r5 g e).2, fun i hi hi' => owns_kept (h.bod i hi hi') fun g e => hb.block g (owns_blk (h.bod i hi hi') g e).2, h.bel.trans (Below.mono hb h.bel.size)⟩
theorem Cp.add (h : Cp w cs R b m wr pv rv qv vs) (hm : m < b.rules.length) {rv' vb : Value} {r : Ru} (hr : b.rules[m] = r) (h2 : w'.ownsRow w.heap.size 72 6 rv' (m + 1) ((((b.rules.take m).zip vs).flatMap fun x => encRu x.1 x.2) ++ encRu r vb)) (hg : wr.grownBy w' rv.ownBlock) (hb : OwnL wr w.heap.size vb r.body) :
    Cp w cs R b (m + 1) (w'.setCell ⟨R, 1, none⟩ rv') pv rv' qv (vs ++ [vb]) := by
  have hlo := h.lo
  have hlen := h.len
  have hne : ∀ {k : Nat} {cs : Array Value} {t : TypeId}, wr.heap[k]? = some (.cells cs t (0, 0)) → t ≠ 72 → w'.heap[k]? = wr.heap[k]? := fun {k cs t} h1 h2 => hg.block k (lt_of_block h1) (fun e => by obtain ⟨c, hc⟩ := owns_tag h.r5 e.symm; exact tag_ne h1 hc h2 rfl)
  have hset : ∀ k, k ≠ R → (w'.setCell ⟨R, 1, none⟩ rv').heap[k]? = w'.heap[k]? := fun k hk => Below.heap_setCell w' ⟨R, 1, none⟩ rv' k hk
  have hbox : w'.heap[R]? = some (.cells #[pv, rv, qv] 26 (0, 0)) := (hne h.box (by decide)).trans h.box
  have hB : ∀ {v : Value} {ys : List Lt}, OwnL wr w.heap.size v ys → OwnL (w'.setCell ⟨R, 1, none⟩ rv') w.heap.size v ys := fun {v ys} hv => owns_kept hv fun g' e => by obtain ⟨c', h'⟩ := owns_tag hv e; exact (hset g' (tag_ne h' h.box (by decide))).trans (hne h' (by decide))
  have htl : (b.rules.take m).length = m := by rw [List.length_take]; omega
  refine ⟨set_cells hbox, (hset _ (by omega)).trans ((hne h.src (by decide)).trans h.src), (hset _ (by omega)).trans ((hne h.res (by decide)).trans h.res), h.lo, ?_, ?_, by rw [List.length_append, hlen]; rfl, hm, ?_, fun i hi hi' => ?_, ?_⟩
  · exact owns_kept h.p5 fun g' e => by obtain ⟨c', h'⟩ := owns_tag h.p5 e; exact (hset g' (tag_ne h' h.box (by decide))).trans (hne h' (by decide))
  · exact owns_kept h.q5 fun g' e => by obtain ⟨c', h'⟩ := owns_tag h.q5 e; exact (hset g' (tag_ne h' h.box (by decide))).trans (hne h' (by decide))
  · have h3 : w'.ownsRow w.heap.size 72 6 rv' (m + 1) (((b.rules.take (m + 1)).zip (vs ++ [vb])).flatMap fun x => encRu x.1 x.2) := by
      rw [List.take_succ_eq_append_getElem hm, zip_snoc _ _ (by rw [htl, hlen]), List.flatMap_append, List.flatMap_cons, List.flatMap_nil, List.append_nil, hr]
      exact h2
    exact owns_kept h3 fun g' e => by obtain ⟨c', h'⟩ := owns_tag h3 e; exact hset g' (tag_ne h' hbox (by decide))
  · by_cases e : i < vs.length
    · simp only [List.getElem_append_left e]
      exact hB (h.bod i e hi')
    · have ei : i = m := by simp only [List.length_append, List.length_singleton] at hi; omega
      subst ei
      have e2 : (vs ++ [vb])[i]'hi = vb := by simp [← hlen]
      simp only [e2, hr]
      exact hB hb
  · exact below_set5 (below_app5 h.bel hg (fun g' e => (owns_blk h.r5 g' e).1) h.bel.size) (by omega)
/-- All copied, and the result's box written. -/
theorem Cp.own (h : Cp w cs R b b.rules.length wr pv rv qv vs) (hk : ∀ k, k ≠ w.heap.size + 1 → w'.heap[k]? = wr.heap[k]?) : BaseOwn w' w.heap.size (.agg #[pv, rv, qv]) b := by
  have hT : ∀ {cs : Array Value} {t : TypeId} {k : Nat}, wr.heap[k]? = some (.cells cs t (0, 0)) → t ≠ 26 → w'.heap[k]? = wr.heap[k]? := fun {cs t k} h1 h2 => hk k (tag_ne h1 h.res h2)
  have hr : w'.ownsRow w.heap.size 72 6 rv b.rules.length ((b.rules.zip vs).flatMap fun x => encRu x.1 x.2) := by
    have h3 := h.r5
    rw [List.take_length] at h3
    exact owns_kept h3 fun g e => by obtain ⟨c, hc⟩ := owns_tag h3 e; exact hT hc (by decide)
  refine ⟨pv, rv, qv, rfl, owns_kept h.p5 fun g e => by obtain ⟨c, hc⟩ := owns_tag h.p5 e; exact hT hc (by decide), ⟨vs, h.len, hr, fun i hi hi' => ?_⟩, owns_kept h.q5 fun g e => by obtain ⟨c, hc⟩ := owns_tag h.q5 e; exact hT hc (by decide)⟩
  have hb := h.bod i hi' hi
  have hb' : OwnL w' w.heap.size vs[i] b.rules[i].body := owns_kept hb fun g e => by obtain ⟨c, hc⟩ := owns_tag hb e; exact hT hc (by decide)
  exact OwnL.bodyInT hb' fun g' e => ⟨(owns_blk hb' g' e).1, fun e2 => by
    obtain ⟨c1, t1⟩ := owns_tag hb' e
    obtain ⟨c2, t2⟩ := owns_tag hr e2
    exact tag_ne t1 t2 (by decide) rfl⟩
end

end Go.Proofs.YtiffcdhiejmbdaaGreatDoor

namespace Go.Proofs.YtiffcdhiejmbdaaGreatDoor
set_option linter.unusedVariables false
set_option linter.unusedSimpArgs false
open Go Go.RowKit

set_option maxRecDepth 100000 in
set_option maxHeartbeats 8000000 in
theorem r5copy_any (b : Bs) (v : Value) (w : World) (hv : BaseAt w v b) (hl1 : b.prems.length ≤ 1000000) (hl2 : b.rules.length ≤ 1000000 - 1) (hl3 : b.proms.length ≤ 1000000) (hlb : ∀ r ∈ b.rules, r.body.length ≤ 1000000) :
    Calls Tryz.prog 89 #[v] w fun e w' => ∃ v', e = .returned v' ∧ BaseOwn w' w.heap.size v' b ∧ Below w.heap.size w w' := by
  obtain ⟨a1, a2, a3, c1, c2, c3, rfl, -, -, -, -, -, -, hp, hr, hq⟩ := hv.form
  have HLB := hidIt hlb
  have HP := hidIt hp
  have HR := hidIt hr
  have HQ := hidIt hq
  have hgr := bgrow2 w (.cells #[.slice a1 b.prems.length c1, .slice a2 b.rules.length c2, .slice a3 b.proms.length c3] 26) (.cells #[.slice none 0 0, .slice none 0 0, .slice none 0 0] 26)
  have HG0 := hidIt hgr
  have hz1 := size_alloc w (.cells #[.slice a1 b.prems.length c1, .slice a2 b.rules.length c2, .slice a3 b.proms.length c3] 26)
  have HK0 := hidIt (blk_kept2 (heap_alloc_new w (.cells #[.slice a1 b.prems.length c1, .slice a2 b.rules.length c2, .slice a3 b.proms.length c3] 26)) (bgrow _ (.cells #[.slice none 0 0, .slice none 0 0, .slice none 0 0] 26)))
  have HZ0 := hidIt (heap_alloc_new (w.alloc (.cells #[.slice a1 b.prems.length c1, .slice a2 b.rules.length c2, .slice a3 b.proms.length c3] 26)) (.cells #[.slice none 0 0, .slice none 0 0, .slice none 0 0] 26))
  rw [hz1] at HZ0
  have HW2 : Hid (((w.alloc (.cells #[.slice a1 b.prems.length c1, .slice a2 b.rules.length c2, .slice a3 b.proms.length c3] 26)).alloc (.cells #[.slice none 0 0, .slice none 0 0, .slice none 0 0] 26)).heap.size = w.heap.size + 2) := by show _ = _; rw [size_alloc, size_alloc]
  clear hv hgr hp hr hq hlb hz1
  go_enter Tryz.func89, Tryz.ntmps89
  go_wp2_with fail
  generalize ((w.alloc (.cells #[.slice a1 b.prems.length c1, .slice a2 b.rules.length c2, .slice a3 b.proms.length c3] 26)).alloc (.cells #[.slice none 0 0, .slice none 0 0, .slice none 0 0] 26)) = w0 at *
  obtain ⟨k0, k1, k2⟩ := bcell3 HK0.out
  have lk := lt_of_block HK0.out
  have KA : ∀ wx, Ext w0 wx → wx.cell? ⟨w.heap.size, 0, none⟩ = some (.slice a1 b.prems.length c1) := fun wx hC => (Below.cell (p := ⟨w.heap.size, 0, none⟩) hC lk).trans k0
  have KC : ∀ wx, Ext w0 wx → wx.cell? ⟨w.heap.size, 2, none⟩ = some (.slice a3 b.proms.length c3) := fun wx hC => (Below.cell (p := ⟨w.heap.size, 2, none⟩) hC lk).trans k2
  haveI := Ext.nonempty w0
  refine Own.wp_region_tail 10 (Ext w0) Grows (Own.relTab [(6, Own.rA (Own.isEmp w0.heap.size 78)), (9, Own.rA (Own.isRow5 w0.heap.size 78 5 b.prems.length (b.prems.flatMap encPm))), (10, Own.rA (Own.isEmp w0.heap.size 80)), (13, Own.rA (Own.isRow5 w0.heap.size 80 4 b.proms.length (b.proms.flatMap encPr))), (3, Own.rA (Own.isBox5 w0.heap.size #[.slice none 0 0, .slice none 0 0, .slice none 0 0] 26))]) (by kernel_rfl) (by kernel_rfl) (by kernel_rfl) (by kernel_rfl) (by kernel_rfl) (by kernel_rfl) (Own.stableO_cons (Own.isEmp_up _ _) (Own.stableO_cons (Own.isRow5_up _ _ _ _ _) (Own.stableO_cons (Own.isEmp_up _ _) (Own.stableO_cons (Own.isRow5_up _ _ _ _ _) (Own.stableO_cons (Own.isBox5_up _ _ _) (Own.stableO_nil _)))))) (Ext.start w0) ?_
  simp only [Own.idleTail]
  refine Own.walkR_rel (by kernel_rfl) rfl rfl (of_decide_eq_true (by kernel_rfl)) (fun wx hC hL => ?_) (fun v hv => ?_)
  · go_simp
    exact Own.empA hC _
  obtain ⟨_, _, g10, rfl, hg10, -⟩ := hv
  simp only [Act.put, List.setIfInBounds_toArray, List.set_cons_zero, List.set_cons_succ]
  repeat (
    refine' Own.walkR_plain (by kernel_rfl) rfl rfl (fun wx hC hL => ?_) ?_
    rotate_left
    · (have hlw := Nat.lt_of_lt_of_le lk (Below.size hC)
       simp only [KA wx hC, KC wx hC, hlw, go_sem]; first | done | (go_simp; exact ⟨rfl, rfl⟩))
    simp only [Act.put, List.setIfInBounds_toArray, List.set_cons_zero, List.set_cons_succ])
  refine Own.walkR_rel (by kernel_rfl) rfl rfl (of_decide_eq_true (by kernel_rfl)) (fun wx hC hL => ?_) (fun v hv => ?_)
  · obtain ⟨g', e', hge, hg'⟩ : Own.isEmp w0.heap.size 78 (.slice (some ⟨g10, 0, none⟩) 0 0) wx := hL.get 6 (by simp [Own.more]) (by kernel_rfl) rfl rfl
    injection e' with e'
    injection e' with e'
    injection e' with e'
    subst e'
    obtain ⟨v', w', hrun, ho, hb⟩ := run_appPm 22 w0.heap.size g10 hg' hge ((HP.out.below HG0.out).below hC) hl1
    exact Own.rel_run rfl rfl rfl hrun ⟨hC.grown hb, hb, ho, fun h => by cases h⟩
  obtain ⟨wq, _, hv13⟩ := hv
  obtain ⟨ap, cp, rfl, -, -⟩ := shape_own hv13
  clear hv13
  simp only [Act.put, List.setIfInBounds_toArray, List.set_cons_zero, List.set_cons_succ]
  refine Own.walkR_rel (by kernel_rfl) rfl rfl (of_decide_eq_true (by kernel_rfl)) (fun wx hC hL => ?_) (fun v hv => ?_)
  · go_simp
    exact Own.empA hC _
  obtain ⟨_, _, g14, rfl, hg14, -⟩ := hv
  simp only [Act.put, List.setIfInBounds_toArray, List.set_cons_zero, List.set_cons_succ]
  repeat (
    refine' Own.walkR_plain (by kernel_rfl) rfl rfl (fun wx hC hL => ?_) ?_
    rotate_left
    · (have hlw := Nat.lt_of_lt_of_le lk (Below.size hC)
       simp only [KA wx hC, KC wx hC, hlw, go_sem]; first | done | (go_simp; exact ⟨rfl, rfl⟩))
    simp only [Act.put, List.setIfInBounds_toArray, List.set_cons_zero, List.set_cons_succ])
  refine Own.walkR_rel (by kernel_rfl) rfl rfl (of_decide_eq_true (by kernel_rfl)) (fun wx hC hL => ?_) (fun v hv => ?_)
  · obtain ⟨g', e', hge, hg'⟩ : Own.isEmp w0.heap.size 80 (.slice (some ⟨g14, 0, none⟩) 0 0) wx := hL.get 10 (by simp [Own.more]) (by kernel_rfl) rfl rfl
    injection e' with e'
    injection e' with e'
    injection e' with e'
    subst e'
    obtain ⟨v', w', hrun, ho, hb⟩ := run_appPr 24 w0.heap.size g14 hg' hge ((HQ.out.below HG0.out).below hC) hl3
    exact Own.rel_run rfl rfl rfl hrun ⟨hC.grown hb, hb, ho, fun h => by cases h⟩
  obtain ⟨wq, _, hv17⟩ := hv
  obtain ⟨aq, cq, rfl, -, -⟩ := shape_own hv17
  clear hv17
  simp only [Act.put, List.setIfInBounds_toArray, List.set_cons_zero, List.set_cons_succ]
  repeat (
    refine' Own.walkR_plain (by kernel_rfl) rfl rfl (fun wx hC hL => ?_) ?_
    rotate_left
    · (go_simp; exact ⟨rfl, rfl⟩)
    simp only [Act.put, List.setIfInBounds_toArray, List.set_cons_zero, List.set_cons_succ])
  refine Own.walkR_rel (by kernel_rfl) rfl rfl (of_decide_eq_true (by kernel_rfl)) (fun wx hC hL => ?_) (fun v hv => ?_)
  · go_simp
    exact Own.box5A hC _ _
  obtain ⟨_, _, R, rfl, hRg, -⟩ := hv
  simp only [Act.put, List.setIfInBounds_toArray, List.set_cons_zero, List.set_cons_succ]
  refine Own.walkR_idle (fun wx hC => Below.refl _ _) ?_
  refine fun w2 hC2 hK => ?_
  have h13 : Own.isRow5 w0.heap.size 78 5 b.prems.length (b.prems.flatMap encPm) (.slice ap b.prems.length cp) w2 := hK.get 9 (by simp [Own.more]) rfl rfl
  have h17 : Own.isRow5 w0.heap.size 80 4 b.proms.length (b.proms.flatMap encPr) (.slice aq b.proms.length cq) w2 := hK.get 13 (by simp [Own.more]) rfl rfl
  obtain ⟨R', eR, hR1, hRb⟩ : Own.isBox5 w0.heap.size #[.slice none 0 0, .slice none 0 0, .slice none 0 0] 26 (.pointer (some ⟨R, 0, none⟩)) w2 := hK.get 3 (by simp [Own.more]) rfl rfl
  injection eR with eR
  injection eR with eR
  injection eR with eR
  subst eR
  have HC2 : Hid (Below w0.heap.size w0 w2) := hC2
  clear hK hC2 KA KC k0 k1 k2 lk
  simp only [List.drop_succ_cons, List.drop_zero]
  have f0 := free_any hRb 0
  have f1 := free_any hRb 1
  have f2 := free_any hRb 2
  obtain ⟨z0, z1, z2⟩ := bcell3 hRb
  have lR := lt_of_block hRb
  go_upto_region 2 with (fail)
  have HCP : Hid (Cp w #[.slice a1 b.prems.length c1, .slice a2 b.rules.length c2, .slice a3 b.proms.length c3] R b 0 (((w2.setCell ⟨R, 0, none⟩ (.slice ap b.prems.length cp)).setCell ⟨R, 1, none⟩ (.slice none 0 0)).setCell ⟨R, 2, none⟩ (.slice aq b.proms.length cq)) (.slice ap b.prems.length cp) (.slice none 0 0) (.slice aq b.proms.length cq) []) := by
    have hw2 := HW2.out
    have hset : ∀ j, j ≠ R → (((w2.setCell ⟨R, 0, none⟩ (.slice ap b.prems.length cp)).setCell ⟨R, 1, none⟩ (.slice none 0 0)).setCell ⟨R, 2, none⟩ (.slice aq b.proms.length cq)).heap[j]? = w2.heap[j]? := fun j hj => by
      rw [Below.heap_setCell _ ⟨R, 2, none⟩ _ j (by show j ≠ R; exact hj), Below.heap_setCell _ ⟨R, 1, none⟩ _ j (by show j ≠ R; exact hj), Below.heap_setCell _ ⟨R, 0, none⟩ _ j (by show j ≠ R; exact hj)]
    have h13' : w2.ownsRow w.heap.size 78 5 (.slice ap b.prems.length cp) b.prems.length (b.prems.flatMap encPm) := owns_le h13 (by omega)
    have h17' : w2.ownsRow w.heap.size 80 4 (.slice aq b.proms.length cq) b.proms.length (b.proms.flatMap encPr) := owns_le h17 (by omega)
    refine ⟨set_cells (set_cells (set_cells hRb)), (hset _ (by omega)).trans ((HC2.out.block _ (by omega)).trans HK0.out), (hset _ (by omega)).trans ((HC2.out.block _ (by omega)).trans HZ0.out), by omega, owns_kept h13' fun g e => hset g ?_, owns_kept h17' fun g e => hset g ?_, rfl, Nat.zero_le _, World.ownsRow_nil _ _ _ _, fun i hi => by simp at hi, ?_⟩
    · obtain ⟨c, hc⟩ := owns_tag h13' e
      exact tag_ne hc hRb (by decide)
    · obtain ⟨c, hc⟩ := owns_tag h17' e
      exact tag_ne hc hRb (by decide)
    · exact below_set5 (below_set5 (below_set5 (HG0.out.trans (HC2.out.mono (by omega))) (by omega)) (by omega)) (by omega)
  clear f0 f1 f2 z0 z1 z2 lR h13 h17 hRb HC2
  generalize (((w2.setCell ⟨R, 0, none⟩ (.slice ap b.prems.length cp)).setCell ⟨R, 1, none⟩ (.slice none 0 0)).setCell ⟨R, 2, none⟩ (.slice aq b.proms.length cq)) = w3 at *
  go_wp2_with fail
  go_loopw [4] (fun i wr => ∃ (m : Nat) (rv : Value) (vs : List Value), i = .int .i64 m ∧ Hid (Cp w #[.slice a1 b.prems.length c1, .slice a2 b.rules.length c2, .slice a3 b.proms.length c3] R b m wr (.slice ap b.prems.length cp) rv (.slice aq b.proms.length cq) vs)) (fun i _ => b.rules.length - (intOf i).toNat)
  case atStart => exact ⟨0, _, [], rfl, HCP.out⟩
  case round =>
    clear HCP
    obtain ⟨m, rv, vs, rfl, HSP⟩ := hrel
    have hm' := HSP.out.le
    obtain ⟨k0, k1, k2⟩ := bcell3 HSP.out.src
    have lk := lt_of_block HSP.out.src
    obtain ⟨ar', cr', rfl, -, -⟩ := shape_own HSP.out.r5
    by_cases hml : m < b.rules.length
    · have hmI : (m : Int) < (b.rules.length : Int) := by omega
      have hm0 : (0 : Int) ≤ (m : Int) := by omega
      obtain ⟨aa, ca, ea, -, -, hrow⟩ := RowIn.form HR.out
      injection ea with ea eb ec
      subst ea ec
      obtain ⟨bb, off, rfl, hbl, bv, x0', x1', x2', x3', x4', x5', hbd⟩ := hrow m hml
      obtain ⟨av, cv, rfl, -, -, -⟩ := hbd.form
      have x0 := (HSP.out.bel.cell (p := ⟨bb, off + m * 6, none⟩) hbl).trans x0'
      have x1 := (HSP.out.bel.cell (p := ⟨bb, off + m * 6 + 1, none⟩) hbl).trans x1'
      have x2 := (HSP.out.bel.cell (p := ⟨bb, off + m * 6 + 2, none⟩) hbl).trans x2'
      have x3 := (HSP.out.bel.cell (p := ⟨bb, off + m * 6 + 3, none⟩) hbl).trans x3'
      have x4 := (HSP.out.bel.cell (p := ⟨bb, off + m * 6 + 4, none⟩) hbl).trans x4'
      have x5 := (HSP.out.bel.cell (p := ⟨bb, off + m * 6 + 5, none⟩) hbl).trans x5'
      have hx := Nat.lt_of_lt_of_le hbl HSP.out.bel.size
      have HBD := hidIt (hbd.below HSP.out.bel)
      have hbl' := HLB.out _ (List.getElem_mem hml)
      clear hrow x0' x1' x2' x3' x4' x5' hbl hbd
      obtain ⟨ru, hru⟩ : ∃ ru, b.rules[m] = ru := ⟨_, rfl⟩
      rw [hru] at x0 x1 x2 x3 x4 x5 hbl' HBD
      have HRU := hidIt hru
      clear hru
      obtain ⟨nm, st, rk, xs, ⟨hg, hn⟩⟩ := ru
      simp only at x0 x1 x2 x3 x4 x5 hbl' HBD
      obtain ⟨nv, hnv⟩ : ∃ n, n = xs.length := ⟨_, rfl⟩
      rw [← hnv] at x3 HBD
      clear hnv
      go_wp2_with (at_builtin; refine Hid.out ?_)
      refine hidIt ?_
      clear k0 k1 k2 lk
      have hg1 := bgrow2 wr (.cells #[.string nm, .bool st, .int .i64 rk, .slice av nv cv, .bool hg, .string hn] 72) (.cells #[] 28)
      have hP1 := blk_kept2 (heap_alloc_new wr (.cells #[.string nm, .bool st, .int .i64 rk, .slice av nv cv, .bool hg, .string hn] 72)) (bgrow (wr.alloc (.cells #[.string nm, .bool st, .int .i64 rk, .slice av nv cv, .bool hg, .string hn] 72)) (.cells #[] 28))
      have hE1 := heap_alloc_new (wr.alloc (.cells #[.string nm, .bool st, .int .i64 rk, .slice av nv cv, .bool hg, .string hn] 72)) (.cells #[] 28)
      have hz2 := size_alloc wr (.cells #[.string nm, .bool st, .int .i64 rk, .slice av nv cv, .bool hg, .string hn] 72)
      rw [hz2] at hE1
      obtain ⟨vb, w5, hrun, hown5, hb5⟩ := run_appLt 56 wr.heap.size (wr.heap.size + 1) hE1 (by omega) (HBD.out.below hg1) hbl'
      obtain ⟨ab, cb, rfl, hyc, hcb, -⟩ := hown5.form5
      refine wpList_run rfl _ _ rfl rfl rfl hrun ?_
      have HB5 := hidIt (hg1.trans (Below.mono hb5 hg1.size))
      have HP5 := hidIt (blk_kept2 hP1 hb5)
      have HOW := hidIt hown5
      clear hrun hown5 hb5 hg1 hP1 hE1 hz2 x0 x1 x2 x3 x4 x5
      have f5 := free_any HP5.out 3
      have l5 := lt_of_block HP5.out
      obtain ⟨t0, t1, t2, t3, t4, t5⟩ := bcell6 HP5.out
      go_upto_region 7 with (fail)
      clear t0 t1 t2 t3 t4 t5
      have HB6 := hidIt (below_set5 HB5.out (Nat.le_refl _) (i := 3) (u := .slice ab xs.length cb))
      have hP6 := set_cells (i := 3) (u := .slice ab xs.length cb) HP5.out
      have HO6 : Hid (OwnL (w5.setCell ⟨wr.heap.size, 3, none⟩ (.slice ab xs.length cb)) wr.heap.size (.slice ab xs.length cb) xs) := owns_kept HOW.out fun g e => Below.heap_setCell w5 ⟨wr.heap.size, 3, none⟩ _ g (by obtain ⟨c, hc⟩ := owns_tag HOW.out e; exact tag_ne hc HP5.out (by decide))
      clear f5 l5 HP5 HOW HB5
      generalize (w5.setCell ⟨wr.heap.size, 3, none⟩ (.slice ab xs.length cb)) = w6 at *
      have HS6 := hidIt (HSP.out.more HB6.out)
      have HP6 : Hid (w6.heap[wr.heap.size]? = some (.cells #[.string nm, .bool st, .int .i64 rk, .slice ab xs.length cb, .bool hg, .string hn] 72 (0, 0))) := hP6
      clear hP6
      obtain ⟨y0, y1, y2, y3, y4, y5⟩ := bcell6 HP6.out
      have ly := lt_of_block HP6.out
      obtain ⟨b0, b1, b2⟩ := bcell3 HS6.out.box
      have lb := lt_of_block HS6.out.box
      go_wp2_with (at_builtin; refine Hid.out ?_)
      refine hidIt ?_
      have hgr7 := bgrow w6 (.cells #[.string nm, .bool st, .int .i64 rk, .slice ab xs.length cb, .bool hg, .string hn] 72)
      have HS7 := hidIt (HS6.out.more hgr7)
      have HOB : Hid (OwnL (w6.alloc (.cells #[.string nm, .bool st, .int .i64 rk, .slice ab xs.length cb, .bool hg, .string hn] 72)) w.heap.size (.slice ab xs.length cb) xs) := owns_le (owns_kept HO6.out fun g e => hgr7.block g (owns_blk HO6.out g e).2) HSP.out.bel.size
      have hwb : w.heap.size ≤ (w6.alloc (.cells #[.string nm, .bool st, .int .i64 rk, .slice ab xs.length cb, .bool hg, .string hn] 72)).heap.size := HS7.out.bel.size
      refine wpList_append_kb rfl _ _ elemRu rfl w.heap.size (.slice ar' m cr') m _ rfl HS7.out.r5 _ 1 rfl #[.string nm, .bool st, .int .i64 rk, .slice ab xs.length cb, .bool hg, .string hn] 72 (heap_alloc_new _ _) rfl (one_of (by rfl)) (by omega) hwb ?_
      intro g8 c8 w8 hown8 hg8 hbl8
      have HS8 := hidIt (HS7.out.add hml HRU.out hown8 hg8 HOB.out)
      have hb8 := (hg8.block R (lt_of_block HS7.out.box) (fun e => by obtain ⟨c, hc⟩ := owns_tag HS7.out.r5 e.symm; exact tag_ne HS7.out.box hc (by decide) rfl)).trans HS7.out.box
      obtain ⟨q0, q1, q2⟩ := bcell3 hb8
      have f8 := free_any hb8 1
      have l8 := lt_of_block hb8
      clear hown8 hg8 hbl8 hb8 hgr7 y0 y1 y2 y3 y4 y5 ly b0 b1 b2 lb hwb
      go_wp2_with fail
      go_roundw
      case rel => exact ⟨m + 1, _, vs ++ [.slice ab xs.length cb], by go_num, HS8⟩
      case measure => simp [intOf]; omega
    · obtain rfl : m = b.rules.length := by omega
      have hmI : ¬ (b.rules.length : Int) < (b.rules.length : Int) := by omega
      clear hml
      obtain ⟨b0, b1, b2⟩ := bcell3 HSP.out.box
      have lb := lt_of_block HSP.out.box
      obtain ⟨z0, z1, z2⟩ := bcell3 HSP.out.res
      have f0 := free_any HSP.out.res 0
      have f1 := free_any HSP.out.res 1
      have f2 := free_any HSP.out.res 2
      have lz := lt_of_block HSP.out.res
      go_wp2_with fail
      refine bodyPost_ret (v := .agg #[.slice ap b.prems.length cp, .slice ar' b.rules.length cr', .slice aq b.proms.length cq]) (by simp [results, Tryz.results89, go_sem, z0, z1, z2, lz]) rfl ?_
      refine ⟨_, rfl, HSP.out.own fun k hk => ?_, below_set5 (below_set5 (below_set5 HSP.out.bel (by omega)) (by omega)) (by omega)⟩
      rw [Below.heap_setCell _ ⟨w.heap.size + 1, 2, none⟩ _ k hk, Below.heap_setCell _ ⟨w.heap.size + 1, 1, none⟩ _ k hk, Below.heap_setCell _ ⟨w.heap.size + 1, 0, none⟩ _ k hk]
end Go.Proofs.YtiffcdhiejmbdaaGreatDoor
