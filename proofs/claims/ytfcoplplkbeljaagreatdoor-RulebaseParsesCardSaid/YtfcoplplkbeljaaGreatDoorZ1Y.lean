/- A rule under construction in a box of its own: what calls and stores leave of it. The reference's reading of a line of a rule. -/
import Derived.Test.YtfcoplplkbeljaaGreatDoorZ1T
import Derived.Test.YtfcoplplkbeljaaGreatDoorZ1U

namespace Go.Proofs.YtfcoplplkbeljaaGreatDoor
set_option linter.unusedVariables false
set_option linter.unusedSimpArgs false
open Go Go.RowKit

theorem owns_mono5 {w : World} {B B' : Nat} {e : TypeId} {k : Nat} {v : Value} {n : Nat} {xs : List Value} (h : w.ownsRow B e k v n xs) (hB : B' ≤ B) : w.ownsRow B' e k v n xs := by
  obtain ⟨h1, h2 | ⟨g, cap, cur, h3, h4, h5⟩⟩ := h
  · exact ⟨h1, .inl h2⟩
  · exact ⟨h1, .inr ⟨g, cap, cur, h3, Nat.le_trans hB h4, h5⟩⟩
/-- The result's box, empty yet; the rule's box R; its body's row behind both. -/
structure Ru5 (w : World) (R : Nat) (wr : World) (nm : ByteArray) (st : Bool) (rk : Int) (bv : Value) (ys : List Lt) (hd : Lt) : Prop where
  box : wr.heap[w.heap.size]? = some (.cells #[.int .i64 0, .bool false, .string ⟨#[]⟩, .int .i64 0, .int .i64 0, .string ⟨#[]⟩, .string ⟨#[]⟩, .bool false, .int .i64 0, .slice none 0 0, .bool false, .string ⟨#[]⟩, .string ⟨#[]⟩, .int .i64 0, .bool false, .string ⟨#[]⟩] 88 (0, 0))
  rul : wr.heap[R]? = some (.cells #[.string nm, .bool st, .int .i64 rk, bv, .bool hd.neg, .string hd.name] 64 (0, 0))
  own : OwnL wr (R + 1) bv ys
  bel : Below w.heap.size w wr
  gt : w.heap.size < R
section
variable {w wr w' : World} {R : Nat} {nm : ByteArray} {st : Bool} {rk : Int} {bv : Value} {ys : List Lt} {hd : Lt}
theorem Ru5.lt (h : Ru5 w R wr nm st rk bv ys hd) : R < wr.heap.size := lt_of_block h.rul
theorem Ru5.more (h : Ru5 w R wr nm st rk bv ys hd) (hb : Below wr.heap.size wr w') : Ru5 w R w' nm st rk bv ys hd :=
  ⟨blk_kept2 h.box hb, blk_kept2 h.rul hb, h.own.go hb, h.bel.trans (Below.mono hb h.bel.size), h.gt⟩
theorem Ru5.one (h : Ru5 w R wr nm st rk bv ys hd) (i : Nat) (u : Value) : (wr.setCell ⟨R, i, none⟩ u).heap[w.heap.size]? = some (.cells #[.int .i64 0, .bool false, .string ⟨#[]⟩, .int .i64 0, .int .i64 0, .string ⟨#[]⟩, .string ⟨#[]⟩, .bool false, .int .i64 0, .slice none 0 0, .bool false, .string ⟨#[]⟩, .string ⟨#[]⟩, .int .i64 0, .bool false, .string ⟨#[]⟩] 88 (0, 0)) ∧ OwnL (wr.setCell ⟨R, i, none⟩ u) (R + 1) bv ys ∧ Below w.heap.size w (wr.setCell ⟨R, i, none⟩ u) :=
  ⟨(Below.heap_setCell wr ⟨R, i, none⟩ u w.heap.size (by have := h.gt; show w.heap.size ≠ R; omega)).trans h.box, h.own.kept (only_setCell (only_refl wr (some R)) (.inl rfl) u) (fun g e => by injection e with e; omega), below_set5 h.bel (Nat.le_of_lt h.gt)⟩
theorem Ru5.name (h : Ru5 w R wr nm st rk bv ys hd) (nm' : ByteArray) : Ru5 w R (wr.setCell ⟨R, 0, none⟩ (.string nm')) nm' st rk bv ys hd :=
  ⟨(h.one 0 _).1, set_cells h.rul, (h.one 0 _).2.1, (h.one 0 _).2.2, h.gt⟩
theorem Ru5.rank (h : Ru5 w R wr nm st rk bv ys hd) (rk' : Int) : Ru5 w R (wr.setCell ⟨R, 2, none⟩ (.int .i64 rk')) nm st rk' bv ys hd :=
  ⟨(h.one 2 _).1, set_cells h.rul, (h.one 2 _).2.1, (h.one 2 _).2.2, h.gt⟩
theorem Ru5.neg (h : Ru5 w R wr nm st rk bv ys hd) (g' : Bool) : Ru5 w R (wr.setCell ⟨R, 4, none⟩ (.bool g')) nm st rk bv ys ⟨g', hd.name⟩ :=
  ⟨(h.one 4 _).1, set_cells h.rul, (h.one 4 _).2.1, (h.one 4 _).2.2, h.gt⟩
theorem Ru5.hname (h : Ru5 w R wr nm st rk bv ys hd) (s' : ByteArray) : Ru5 w R (wr.setCell ⟨R, 5, none⟩ (.string s')) nm st rk bv ys ⟨hd.neg, s'⟩ :=
  ⟨(h.one 5 _).1, set_cells h.rul, (h.one 5 _).2.1, (h.one 5 _).2.2, h.gt⟩
theorem Ru5.head (h : Ru5 w R wr nm st rk bv ys hd) (x : Lt) : Ru5 w R ((wr.setCell ⟨R, 4, none⟩ (.bool x.neg)).setCell ⟨R, 5, none⟩ (.string x.name)) nm st rk bv ys x :=
  (h.neg x.neg).hname x.name
/-- One more literal in the body. -/
theorem Ru5.grown (h : Ru5 w R wr nm st rk bv ys hd) {bv' : Value} {x : Lt} (hg : wr.grownBy w' bv.ownBlock) (ho : w'.ownsRow (R + 1) 46 2 bv' (ys.length + 1) (flatL ys ++ [.bool x.neg, .string x.name])) :
    Ru5 w R (w'.setCell ⟨R, 3, none⟩ bv') nm st rk bv' (ys ++ [x]) hd := by
  have hB : ∀ g, bv.ownBlock = some g → R + 1 ≤ g := fun g e => (h.own.own_block g e).1
  have hlt := h.lt
  have hgt := h.gt
  have hb1 : w'.heap[w.heap.size]? = some (.cells #[.int .i64 0, .bool false, .string ⟨#[]⟩, .int .i64 0, .int .i64 0, .string ⟨#[]⟩, .string ⟨#[]⟩, .bool false, .int .i64 0, .slice none 0 0, .bool false, .string ⟨#[]⟩, .string ⟨#[]⟩, .int .i64 0, .bool false, .string ⟨#[]⟩] 88 (0, 0)) := (hg.block w.heap.size (by omega) (fun e => by have := hB _ e.symm; omega)).trans h.box
  have hr1 : w'.heap[R]? = some (.cells #[.string nm, .bool st, .int .i64 rk, bv, .bool hd.neg, .string hd.name] 64 (0, 0)) := (hg.block R hlt (fun e => by have := hB _ e.symm; omega)).trans h.rul
  have hw1 : Below w.heap.size w w' := below_app5 h.bel hg (fun g e => by have := hB g e; omega) (by omega)
  have ho1 : OwnL w' (R + 1) bv' (ys ++ [x]) := by
    show World.ownsRow _ _ _ _ _ _ _
    rw [flatL_append, flatL_one_lit, List.length_append]
    exact ho
  exact ⟨(Below.heap_setCell w' ⟨R, 3, none⟩ bv' w.heap.size (by show w.heap.size ≠ R; omega)).trans hb1, set_cells hr1, ho1.kept (only_setCell (only_refl w' (some R)) (.inl rfl) bv') (fun g e => by injection e with e; omega), below_set5 hw1 (Nat.le_of_lt hgt), hgt⟩
end

theorem bodyX_len : ∀ l : List ByteArray, (bodyX l).length = l.length
  | [] => rfl
  | [x] => rfl
  | x :: y :: r => by rw [bodyX, List.length_cons, bodyX_len (y :: r)]; rfl
theorem bodyX_get : ∀ (l : List ByteArray) (k : Nat) (h : k < l.length) (h' : k < (bodyX l).length), (bodyX l)[k] = if k + 1 < l.length then cutL l[k] else l[k]
  | [], k, h, _ => by simp at h
  | [x], 0, _, _ => by simp [bodyX]
  | [x], k + 1, h, _ => by simp at h
  | x :: y :: r, 0, _, _ => by simp [bodyX]
  | x :: y :: r, k + 1, h, h' => by
    have := bodyX_get (y :: r) k (by simpa using h) (by rw [bodyX_len]; simpa using h)
    simp only [bodyX, List.getElem_cons_succ]
    rw [this]
    simp only [List.length_cons] at *
    by_cases e : k + 1 < r.length + 1
    · rw [if_pos e, if_pos (by omega)]
    · rw [if_neg e, if_neg (by omega)]
/-- How many words a body has. -/
def ruleN (ws : List ByteArray) : Nat := ws.length - 2 - ruleNx ws
theorem ruleBw_len (ws : List ByteArray) : (ruleBw ws).length = ruleN ws := by
  unfold ruleBw ruleN
  rw [bodyX_len, List.length_take, List.length_drop]
  omega
theorem ruleBw_get (ws : List ByteArray) (k : Nat) (h : k < ruleN ws) (h' : k < (ruleBw ws).length) : (ruleBw ws)[k] = if k + 1 < ruleN ws then cutL (atW ws (ruleNx ws + k)) else atW ws (ruleNx ws + k) := by
  have hn : k < ws.length - ruleNx ws := by unfold ruleN at h; omega
  have hl : ((ws.drop (ruleNx ws)).take (ws.length - 2 - ruleNx ws)).length = ruleN ws := by
    unfold ruleN
    rw [List.length_take, List.length_drop]
    omega
  have e : ((ws.drop (ruleNx ws)).take (ws.length - 2 - ruleNx ws))[k]'(by rw [hl]; exact h) = atW ws (ruleNx ws + k) := by
    rw [List.getElem_take, List.getElem_drop]
    unfold atW
    rw [List.getD_eq_getElem?_getD, List.getElem?_eq_getElem (by omega)]
    rfl
  have := bodyX_get ((ws.drop (ruleNx ws)).take (ws.length - 2 - ruleNx ws)) k (by rw [hl]; exact h) (by rw [bodyX_len, hl]; exact h)
  simp only [e, hl] at this
  exact this
/-- The word of a body as it is read. -/
def bodyW (ws : List ByteArray) (k : Nat) : ByteArray := if k + 1 < ruleN ws then cutL (atW ws (ruleNx ws + k)) else atW ws (ruleNx ws + k)
theorem bw_take (ws : List ByteArray) (k : Nat) (h : k < ruleN ws) : (ruleBw ws).take (k + 1) = (ruleBw ws).take k ++ [bodyW ws k] := by
  rw [List.take_succ_eq_append_getElem (by rw [ruleBw_len]; exact h), ruleBw_get ws k h (by rw [ruleBw_len]; exact h)]
  rfl
theorem bw_all (ws : List ByteArray) : (ruleBw ws).take (ruleN ws) = ruleBw ws := List.take_of_length_le (by rw [ruleBw_len]; exact Nat.le_refl _)
theorem bw_bad (ws : List ByteArray) (k : Nat) (h : k < ruleN ws) (hb : litOk (bodyW ws k) = false) : (ruleBw ws).all litOk = false := by
  rw [List.all_eq_false]
  refine ⟨(ruleBw ws)[k]'(by rw [ruleBw_len]; exact h), List.getElem_mem _, ?_⟩
  rw [ruleBw_get ws k h]
  show ¬ litOk (bodyW ws k) = true
  rw [hb]
  decide
theorem cutL_size (x : ByteArray) : (cutL x).size ≤ x.size := by
  unfold cutL
  split
  · rw [ByteArray.size_extract]; omega
  · exact Nat.le_refl _
theorem bodyW_size {ws : List ByteArray} {n : Nat} (h : ∀ x ∈ ws, x.size ≤ n) (k : Nat) : (bodyW ws k).size ≤ n := by
  unfold bodyW
  split
  · exact Nat.le_trans (cutL_size _) (atW_size h _)
  · exact atW_size h _
end Go.Proofs.YtfcoplplkbeljaaGreatDoor

namespace Go.Proofs.YtfcoplplkbeljaaGreatDoor
set_option linter.unusedVariables false
set_option linter.unusedSimpArgs false
open Go Go.RowKit

/-- What the reading of a rule's line hands back. -/
def RuRes (s : ByteArray) (ws : List ByteArray) (w : World) (v : Value) (w' : World) : Prop :=
  ∃ bv : Value, v = (if ruleK s ws = true then lineV 2 noPm (ruleC ws) bv noPr else line0) ∧ (ruleK s ws = true → OwnL w' w.heap.size bv (ruleC ws).body)

set_option maxRecDepth 100000 in
set_option maxHeartbeats 4000000 in
theorem r5ruleOf_X (s : ByteArray) (ws : List ByteArray) (B : Nat) (v : Value) (hws : ∀ x ∈ ws, x.size ≤ 100000) (hl : 0 < ws.length) (hl2 : ws.length ≤ 5000) (w : World) (h : OwnWs w B v ws) (hcase : ((ruleSt ws || decide ((atW ws 2).size = 2)) && (ruleBw ws).all litOk) = false) :
    Calls Tryz.prog 105 #[.string s, v] w fun e w' => ∃ v : Value, e = .returned v ∧ RuRes s ws w v w' ∧ Below w.heap.size w w' := by
  have HAT := hidIt (atW_size hws)
  have HBS := hidIt (bodyW_size hws)
  have HCASE := hidIt hcase
  clear hcase
  obtain ⟨a, c, rfl, hc0⟩ := h.cells
  have HCW := hidIt hc0
  obtain ⟨g0, rfl, hg0, hcell0⟩ := hc0 0 hl
  have hat0 : ws[0] = atW ws 0 := by unfold atW; rw [List.getD_eq_getElem?_getD, List.getElem?_eq_getElem hl]; rfl
  rw [hat0] at hcell0
  have HO := hidIt h
  have hlI : (0 : Int) < (ws.length : Int) := by omega
  have hlI2 : (ws.length : Int) ≤ 5000 := by omega
  have hgr0 := bgrow w (.cells #[.int .i64 0, .bool false, .string ⟨#[]⟩, .int .i64 0, .int .i64 0, .string ⟨#[]⟩, .string ⟨#[]⟩, .bool false, .int .i64 0, .slice none 0 0, .bool false, .string ⟨#[]⟩, .string ⟨#[]⟩, .int .i64 0, .bool false, .string ⟨#[]⟩] 88)
  have HZ0 := hidIt (heap_alloc_new w (.cells #[.int .i64 0, .bool false, .string ⟨#[]⟩, .int .i64 0, .int .i64 0, .string ⟨#[]⟩, .string ⟨#[]⟩, .bool false, .int .i64 0, .slice none 0 0, .bool false, .string ⟨#[]⟩, .string ⟨#[]⟩, .int .i64 0, .bool false, .string ⟨#[]⟩] 88))
  have HB0 := hidIt hgr0
  have HC0 := hidIt ((Below.cell (p := ⟨g0, 0, none⟩) hgr0 hg0).trans hcell0)
  have hgs0 : g0 < (w.alloc (.cells #[.int .i64 0, .bool false, .string ⟨#[]⟩, .int .i64 0, .int .i64 0, .string ⟨#[]⟩, .string ⟨#[]⟩, .bool false, .int .i64 0, .slice none 0 0, .bool false, .string ⟨#[]⟩, .string ⟨#[]⟩, .int .i64 0, .bool false, .string ⟨#[]⟩] 88)).heap.size := Nat.lt_of_lt_of_le hg0 hgr0.size
  clear h hws hgr0 hcell0 hat0 hc0
  go_enter Tryz.func105, Tryz.ntmps105
  go_wp2_with fail
  generalize hw1 : w.alloc (.cells #[.int .i64 0, .bool false, .string ⟨#[]⟩, .int .i64 0, .int .i64 0, .string ⟨#[]⟩, .string ⟨#[]⟩, .bool false, .int .i64 0, .slice none 0 0, .bool false, .string ⟨#[]⟩, .string ⟨#[]⟩, .int .i64 0, .bool false, .string ⟨#[]⟩] 88) = w1 at *
  have HSZ1 : Hid (w1.heap.size = w.heap.size + 1) := by show _ = _; rw [← hw1, size_alloc]
  clear hw1
  have HO1 := hidIt (HO.out.go HB0.out)
  have K0 : ∀ wx, Ext w1 wx → wx.cell? ⟨g0, 0, none⟩ = some (.string (atW ws 0)) := fun wx hC => (Below.cell (p := ⟨g0, 0, none⟩) hC hgs0).trans HC0.out
  haveI := Ext.nonempty w1
  refine Own.wp_region_tail 8 (Ext w1) Grows (Own.relTab [(19, Own.rA (Own.isVal (.string (atW ws 1)))), (5, Own.rA (Own.isBoxR w1.heap.size #[.string ⟨#[]⟩, .bool false, .int .i64 0, .slice none 0 0, .bool false, .string ⟨#[]⟩] 64))]) (by kernel_rfl) (by kernel_rfl) (by kernel_rfl) (by kernel_rfl) (by kernel_rfl) (by kernel_rfl) (Own.stableO_cons (Own.isVal_up _) (Own.stableO_cons (Own.isBoxR_up _ _ _) (Own.stableO_nil _))) (Ext.start w1) ?_
  simp only [Own.idleTail]
  repeat (
    refine' Own.walkR_plain (by kernel_rfl) rfl rfl (fun wx hC hL => ?_) ?_
    rotate_left
    · (have hlw := Nat.lt_of_lt_of_le hgs0 (Below.size hC)
       simp only [K0 wx hC, hlI, hlw, go_sem]; first | done | (go_simp; exact ⟨rfl, rfl⟩))
    simp only [Act.put, List.setIfInBounds_toArray, List.set_cons_zero, List.set_cons_succ])
  refine Own.walkR_rel (by kernel_rfl) rfl rfl (of_decide_eq_true (by kernel_rfl)) (fun wx hC hL => ?_) (fun v19 hv19 => ?_)
  · go_simp
    exact Own.callV5 hC (r5at_any ws B _ 1 (by omega) wx (HO1.out.go hC))
  obtain ⟨_, _, rfl⟩ := hv19
  simp only [Act.put, List.setIfInBounds_toArray, List.set_cons_zero, List.set_cons_succ]
  repeat (
    refine' Own.walkR_plain (by kernel_rfl) rfl rfl (fun wx hC hL => ?_) ?_
    rotate_left
    · (have hlw := Nat.lt_of_lt_of_le hgs0 (Below.size hC)
       simp only [K0 wx hC, hlI, hlw, go_sem]; first | done | (go_simp; exact ⟨rfl, rfl⟩))
    simp only [Act.put, List.setIfInBounds_toArray, List.set_cons_zero, List.set_cons_succ])
  refine Own.walkR_rel (by kernel_rfl) rfl rfl (of_decide_eq_true (by kernel_rfl)) (fun wx hC hL => ?_) (fun v5 hv5 => ?_)
  · go_simp
    exact Own.boxRA hC _ _
  obtain ⟨_, _, R, rfl, hRg, -⟩ := hv5
  simp only [Act.put, List.setIfInBounds_toArray, List.set_cons_zero, List.set_cons_succ]
  refine Own.walkR_idle (fun wx hC => Below.refl _ _) ?_
  refine fun w3 hC3 hK => ?_
  obtain ⟨R', eR, hR1, hRb⟩ : Own.isBoxR w1.heap.size #[.string ⟨#[]⟩, .bool false, .int .i64 0, .slice none 0 0, .bool false, .string ⟨#[]⟩] 64 (.pointer (some ⟨R, 0, none⟩)) w3 := hK.get 5 (by simp [Own.more]) rfl rfl
  injection eR with eR
  injection eR with eR
  injection eR with eR
  subst eR
  have hC3' : Below w1.heap.size w1 w3 := hC3
  have hgt : w.heap.size < R := by have := HSZ1.out; omega
  have HZ3 := hidIt (blk_kept2 HZ0.out hC3')
  have HB3 := hidIt (HB0.out.trans (Below.mono hC3' HB0.out.size))
  clear hK hC3 hC3' K0 HZ0 HB0 HC0 hgs0
  simp only [List.drop_succ_cons, List.drop_zero]
  have f0 := free_any hRb 0
  have f1 := free_any hRb 1
  have f2 := free_any hRb 2
  have f3 := free_any hRb 3
  have f4 := free_any hRb 4
  have f5 := free_any hRb 5
  obtain ⟨z0, z1, z2, z3, z4, z5⟩ := bcell6 hRb
  have lR := lt_of_block hRb
  go_upto_region 2 with (fail)
  have HS : Hid (Ru5 w R ((((((w3.setCell ⟨R, 0, none⟩ (.string (atW ws 1))).setCell ⟨R, 1, none⟩ (.bool ((atW ws 0).toList == [115, 116, 114, 105, 99, 116]))).setCell ⟨R, 2, none⟩ (.int .i64 0)).setCell ⟨R, 3, none⟩ (.slice none 0 0)).setCell ⟨R, 4, none⟩ (.bool false)).setCell ⟨R, 5, none⟩ (.string ⟨#[]⟩)) (atW ws 1) (ruleSt ws) 0 (.slice none 0 0) [] ⟨false, ⟨#[]⟩⟩) := by
    refine ⟨?_, set_blk6 hRb, ?_, ?_, hgt⟩
    · rw [Below.heap_setCell _ ⟨R, 5, none⟩ _ w.heap.size (by show w.heap.size ≠ R; omega), Below.heap_setCell _ ⟨R, 4, none⟩ _ w.heap.size (by show w.heap.size ≠ R; omega), Below.heap_setCell _ ⟨R, 3, none⟩ _ w.heap.size (by show w.heap.size ≠ R; omega), Below.heap_setCell _ ⟨R, 2, none⟩ _ w.heap.size (by show w.heap.size ≠ R; omega), Below.heap_setCell _ ⟨R, 1, none⟩ _ w.heap.size (by show w.heap.size ≠ R; omega), Below.heap_setCell _ ⟨R, 0, none⟩ _ w.heap.size (by show w.heap.size ≠ R; omega)]
      exact HZ3.out
    · exact OwnL.nil _ _
    · exact below_set5 (below_set5 (below_set5 (below_set5 (below_set5 (below_set5 HB3.out (Nat.le_of_lt hgt) (i := 0) (u := .string (atW ws 1))) (Nat.le_of_lt hgt) (i := 1) (u := .bool ((atW ws 0).toList == [115, 116, 114, 105, 99, 116]))) (Nat.le_of_lt hgt) (i := 2) (u := .int .i64 0)) (Nat.le_of_lt hgt) (i := 3) (u := .slice none 0 0)) (Nat.le_of_lt hgt) (i := 4) (u := .bool false)) (Nat.le_of_lt hgt) (i := 5) (u := .string ⟨#[]⟩)
  clear f0 f1 f2 f3 f4 f5 z0 z1 z2 z3 z4 z5 lR hRb HZ3 HB3
  generalize ((((((w3.setCell ⟨R, 0, none⟩ (.string (atW ws 1))).setCell ⟨R, 1, none⟩ (.bool ((atW ws 0).toList == [115, 116, 114, 105, 99, 116]))).setCell ⟨R, 2, none⟩ (.int .i64 0)).setCell ⟨R, 3, none⟩ (.slice none 0 0)).setCell ⟨R, 4, none⟩ (.bool false)).setCell ⟨R, 5, none⟩ (.string ⟨#[]⟩)) = w4 at *
  -- the name and the rank
  have hz1 : ((atW ws 1).size : Int) ≤ 100000 := by have := HAT.out 1; omega
  obtain ⟨C, hC⟩ : ∃ C, C = (ruleSt ws && decide (0 < (atW ws 1).size)) := ⟨_, rfl⟩
  have HC := hidIt hC
  clear hC
  go_upto_region 3 with (fail)
  go_cut [28] from 14 (fun c wx => c = .bool C ∧ w4 = wx)
  case first =>
    obtain ⟨x0, x1, x2, x3, x4, x5⟩ := bcell6 HS.out.rul
    have lx := HS.out.lt
    cases hst : ruleSt ws
    · rw [hst] at x1
      have EC : Hid (C = false) := by show _ = _; rw [HC.out, hst]; rfl
      go_wp2_with fail
      go_meet
      exact ⟨by rw [EC.out], rfl⟩
    · rw [hst] at x1
      by_cases h1 : 0 < (atW ws 1).size
      · have h1I : (0 : Int) < ((atW ws 1).size : Int) := by omega
        have EC : Hid (C = true) := by show _ = _; rw [HC.out, hst, decide_eq_true h1]; rfl
        go_wp2_with fail
        go_meet
        exact ⟨by rw [EC.out], rfl⟩
      · have h1I : ¬ (0 : Int) < ((atW ws 1).size : Int) := by omega
        have EC : Hid (C = false) := by show _ = _; rw [HC.out, hst, decide_eq_false h1]; rfl
        go_wp2_with fail
        go_meet
        exact ⟨by rw [EC.out], rfl⟩
  obtain ⟨rfl, rfl⟩ := hcut
  go_upto_if 28 with (fail)
  go_cut [6] from 14 (fun nx wx => nx = .int .i64 (ruleNx ws : Int) ∧ Ru5 w R wx (ruleNm5 ws) (ruleSt ws) (ruleRk ws) (.slice none 0 0) [] ⟨false, ⟨#[]⟩⟩ ∧ (ruleSt ws || decide ((atW ws 2).size = 2)) = true)
  case first =>
    obtain ⟨x0, x1, x2, x3, x4, x5⟩ := bcell6 HS.out.rul
    have lx := HS.out.lt
    have f0 := free_any HS.out.rul 0
    have f2 := free_any HS.out.rul 2
    cases C
    · cases hst : ruleSt ws
      · rw [hst] at x1
        have EN : Hid (ruleNx ws = 3 ∧ ruleNm5 ws = atW ws 1) := by show _ ∧ _; unfold ruleNx ruleNm5; rw [hst]; exact ⟨rfl, rfl⟩
        go_wp2_with fail
        refine (r5at_any ws B _ 2 (by omega) _ (HO.out.go HS.out.bel)).mono ?_
        rintro e w5 ⟨rfl, rfl⟩
        by_cases h2 : (atW ws 2).size = 2
        · have h2I : (((atW ws 2).size : Int) != 2) = false := by rw [h2]; rfl
          have h2J : ((atW ws 2).size : Int) = 2 := by omega
          have h2N : 1 ≤ (atW ws 2).size := by omega
          have ER : Hid (ruleRk ws = numW ((atW ws 2).extract 0 1)) := by show _ = _; unfold ruleRk; rw [hst]; rfl
          go_wp2_with fail
          refine (r5number_any ((atW ws 2).extract 0 1) (by rw [ByteArray.size_extract]; unfold maxLen; omega) _).mono ?_
          rintro e w5 ⟨rfl, rfl⟩
          go_wp2_with fail
          go_meet
          refine ⟨by rw [EN.out.1]; rfl, ?_, by rw [decide_eq_true h2, Bool.or_true]⟩
          have k := HS.out.rank (numW ((atW ws 2).extract 0 1))
          rw [EN.out.2, ER.out]
          exact k
        · have h2I : (((atW ws 2).size : Int) != 2) = true := bne_iff_ne.2 (by omega)
          have HN : Hid (¬ ruleK s ws = true) := by show ¬ _; unfold ruleK; rw [hst, decide_eq_false h2]; simp
          have HS5 := hidIt HS.out
          clear f0 f2
          go_wp2_with (refine wpList_store_mid rfl 88 (.tmp 4) (.tmp 45) rfl w.heap.size 0 #[.int .i64 0, .bool false, .string ⟨#[]⟩, .int .i64 0, .int .i64 0, .string ⟨#[]⟩, .string ⟨#[]⟩, .bool false, .int .i64 0, .slice none 0 0, .bool false, .string ⟨#[]⟩, .string ⟨#[]⟩, .int .i64 0, .bool false, .string ⟨#[]⟩] rfl rfl (there_of5 (hidIt HS5.out.box).out rfl) (by kernel_rfl) (by simp [Value.oneCell']) ?_; refine Hid.out ?_)
          have HF2 : Hid ((w5.setCells w.heap.size 0 (#[.int .i64 0, .bool false, .string ⟨#[]⟩, .int .i64 0, .int .i64 0, .string ⟨#[]⟩, .string ⟨#[]⟩, .bool false, .int .i64 0, .slice none 0 0, .bool false, .string ⟨#[]⟩, .string ⟨#[]⟩, .int .i64 0, .bool false, .string ⟨#[]⟩] : Array Value).toList).heap[w.heap.size]? = some (.cells #[.int .i64 0, .bool false, .string ⟨#[]⟩, .int .i64 0, .int .i64 0, .string ⟨#[]⟩, .string ⟨#[]⟩, .bool false, .int .i64 0, .slice none 0 0, .bool false, .string ⟨#[]⟩, .string ⟨#[]⟩, .int .i64 0, .bool false, .string ⟨#[]⟩] 88 (0, 0))) := put16_heap (hidIt HS5.out.box).out (.int .i64 0) (.bool false) (.string ⟨#[]⟩) (.int .i64 0) (.int .i64 0) (.string ⟨#[]⟩) (.string ⟨#[]⟩) (.bool false) (.int .i64 0) (.slice none 0 0) (.bool false) (.string ⟨#[]⟩) (.string ⟨#[]⟩) (.int .i64 0) (.bool false) (.string ⟨#[]⟩)
          have HBF : Hid (Below w.heap.size w (w5.setCells w.heap.size 0 (#[.int .i64 0, .bool false, .string ⟨#[]⟩, .int .i64 0, .int .i64 0, .string ⟨#[]⟩, .string ⟨#[]⟩, .bool false, .int .i64 0, .slice none 0 0, .bool false, .string ⟨#[]⟩, .string ⟨#[]⟩, .int .i64 0, .bool false, .string ⟨#[]⟩] : Array Value).toList)) := put16_below (hidIt HS5.out.bel).out (Nat.le_refl _) (.int .i64 0) (.bool false) (.string ⟨#[]⟩) (.int .i64 0) (.int .i64 0) (.string ⟨#[]⟩) (.string ⟨#[]⟩) (.bool false) (.int .i64 0) (.slice none 0 0) (.bool false) (.string ⟨#[]⟩) (.string ⟨#[]⟩) (.int .i64 0) (.bool false) (.string ⟨#[]⟩)
          refine hidIt ?_
          generalize (w5.setCells w.heap.size 0 (#[.int .i64 0, .bool false, .string ⟨#[]⟩, .int .i64 0, .int .i64 0, .string ⟨#[]⟩, .string ⟨#[]⟩, .bool false, .int .i64 0, .slice none 0 0, .bool false, .string ⟨#[]⟩, .string ⟨#[]⟩, .int .i64 0, .bool false, .string ⟨#[]⟩] : Array Value).toList) = w9 at *
          obtain ⟨z0, z1, z2, z3, z4, z5, z6, z7, z8, z9, za, zb, zc, zd, ze, zf⟩ := bcell16 HF2.out
          have lz := lt_of_block HF2.out
          go_wp2_with fail
          refine bodyPost_ret (v := .agg #[.int .i64 0, .bool false, .string ⟨#[]⟩, .int .i64 0, .int .i64 0, .string ⟨#[]⟩, .string ⟨#[]⟩, .bool false, .int .i64 0, .slice none 0 0, .bool false, .string ⟨#[]⟩, .string ⟨#[]⟩, .int .i64 0, .bool false, .string ⟨#[]⟩]) (by simp [results, Tryz.results105, go_sem, z0, z1, z2, z3, z4, z5, z6, z7, z8, z9, za, zb, zc, zd, ze, zf, lz]) rfl ?_
          exact ⟨_, rfl, ⟨.slice none 0 0, by rw [if_neg HN.out]; rfl, fun e => absurd e HN.out⟩, HBF.out⟩
      · rw [hst] at x1
        have EN : Hid (ruleNx ws = 2 ∧ ruleRk ws = 0) := by show _ ∧ _; unfold ruleNx ruleRk; rw [hst]; exact ⟨rfl, rfl⟩
        have h1 : ¬ 0 < (atW ws 1).size := by
          have := HC.out
          rw [hst, Bool.true_and] at this
          exact of_decide_eq_false this.symm
        have ENM : Hid (ruleNm5 ws = atW ws 1) := by show _ = _; unfold ruleNm5 cutL; rw [hst, if_pos rfl, if_neg h1]
        go_wp2_with fail
        go_meet
        refine ⟨by rw [EN.out.1]; rfl, ?_, by rw [hst]; rfl⟩
        have k := HS.out
        rw [ENM.out, EN.out.2]
        exact k
    · have hC2 := HC.out.symm
      rw [Bool.and_eq_true, decide_eq_true_eq] at hC2
      obtain ⟨hst, h1⟩ := hC2
      have h1I : (0 : Int) < ((atW ws 1).size : Int) := by omega
      have EN : Hid (ruleNx ws = 2 ∧ ruleRk ws = 0) := by show _ ∧ _; unfold ruleNx ruleRk; rw [hst]; exact ⟨rfl, rfl⟩
      have ENM : Hid (ruleNm5 ws = (atW ws 1).extract 0 ((atW ws 1).size - 1)) := by show _ = _; unfold ruleNm5 cutL; rw [hst, if_pos rfl, if_pos h1]
      go_wp2_with fail
      go_meet
      refine ⟨by rw [EN.out.1]; rfl, ?_, by rw [hst]; rfl⟩
      have k := HS.out.name ((atW ws 1).extract 0 ((atW ws 1).size - 1))
      rw [ENM.out, EN.out.2]
      exact k
  case rest =>
    obtain ⟨rfl, hS5, hz5⟩ := hcut
    have HSX := hidIt hS5
    have HZ5 := hidIt hz5
    have hnx2 : ruleNx ws = 2 ∨ ruleNx ws = 3 := by unfold ruleNx; split <;> simp
    have HRN : Hid (ruleN ws = ws.length - 2 - ruleNx ws) := rfl
    clear hS5 hz5 HS
    have HNXE0 : Hid (ruleNx ws = ruleNx ws) := rfl
    generalize hNXE : ruleNx ws = NX at hnx2 HRN ⊢
    have HNXE := hidIt hNXE
    clear hNXE HNXE0
    have hNX0 : (0 : Int) ≤ (NX : Int) := by omega
    have hNX3 : (NX : Int) ≤ 3 := by omega
    go_wp2_with fail
    go_loopw [8] (fun i wr => ∃ (k : Nat) (bv : Value), i = .int .i64 ((NX + k : Nat) : Int) ∧ k ≤ ruleN ws ∧ Hid (((ruleBw ws).take k).all litOk = true) ∧ Hid (Ru5 w R wr (ruleNm5 ws) (ruleSt ws) (ruleRk ws) bv (((ruleBw ws).take k).map litW) ⟨false, ⟨#[]⟩⟩)) (fun i _ => ws.length - (intOf i).toNat)
    case atStart => exact ⟨0, .slice none 0 0, by go_num, Nat.zero_le _, by show _ = _; rfl, HSX.out⟩
    case round =>
      obtain ⟨k, bv, rfl, hkN, HAL, HSR⟩ := hrel
      by_cases hlt : k < ruleN ws
      · have hk1 : NX + k < ws.length - 2 := by have := HRN.out; omega
        have hkI : ((NX + k : Nat) : Int) < (ws.length : Int) - 2 := by omega
        have hkJ : ((NX + k : Nat) : Int) < (ws.length : Int) := by omega
        have hk0 : (0 : Int) ≤ ((NX + k : Nat) : Int) := by omega
        have hcx : wr.cell? ⟨g0, NX + k, none⟩ = some (.string (atW ws (NX + k))) := by
          obtain ⟨g, hge, hgl, hcl⟩ := HCW.out (NX + k) (by omega)
          injection hge with hge
          injection hge with hge
          subst hge
          have e : ws[NX + k] = atW ws (NX + k) := by unfold atW; rw [List.getD_eq_getElem?_getD, List.getElem?_eq_getElem (by omega)]; rfl
          rw [e] at hcl
          exact (Below.cell (p := ⟨g0, NX + k, none⟩) HSR.out.bel hgl).trans hcl
        have hgx : g0 < wr.heap.size := Nat.lt_of_lt_of_le hg0 HSR.out.bel.size
        have hzx : ((atW ws (NX + k)).size : Int) ≤ 100000 := by have := HAT.out (NX + k); omega
        have HBW : Hid (bodyW ws k = if k + 1 < ruleN ws then cutL (atW ws (NX + k)) else atW ws (NX + k)) := by rw [← HNXE.out]; rfl
        have HBSK := hidIt (HBS.out k)
        generalize hX : atW ws (NX + k) = X at *
        generalize hWW : bodyW ws k = WW at *
        have HWW := hidIt hWW
        clear hX hWW
        obtain ⟨C2, hC2⟩ : ∃ C2, C2 = (decide (k + 1 < ruleN ws) && decide (0 < X.size)) := ⟨_, rfl⟩
        have HC2 := hidIt hC2
        clear hC2
        go_upto_region 14 with (fail)
        clear hcx hgx
        go_cut [71] from 51 to 90 (fun c wx => c = .bool C2 ∧ wr = wx)
        case first =>
          by_cases hk3 : k + 1 < ruleN ws
          · have hk3I : ((NX + k : Nat) : Int) < (ws.length : Int) - 3 := by have := HRN.out; omega
            by_cases hX0 : 0 < X.size
            · have hX0I : (0 : Int) < (X.size : Int) := by omega
              have EC : Hid (C2 = true) := by show _ = _; rw [HC2.out, decide_eq_true hk3, decide_eq_true hX0]; rfl
              go_wp2_with fail
              go_meet
              exact ⟨by rw [EC.out], rfl⟩
            · have hX0I : ¬ (0 : Int) < (X.size : Int) := by omega
              have EC : Hid (C2 = false) := by show _ = _; rw [HC2.out, decide_eq_true hk3, decide_eq_false hX0]; rfl
              go_wp2_with fail
              go_meet
              exact ⟨by rw [EC.out], rfl⟩
          · have hk3I : ¬ ((NX + k : Nat) : Int) < (ws.length : Int) - 3 := by have := HRN.out; omega
            have EC : Hid (C2 = false) := by show _ = _; rw [HC2.out, decide_eq_false hk3]; rfl
            go_wp2_with fail
            go_meet
            exact ⟨by rw [EC.out], rfl⟩
        obtain ⟨rfl, rfl⟩ := hcut
        go_upto_if 71 with (fail)
        go_cut [9] from 51 to 90 (fun x wx => x = .string WW ∧ wr = wx)
        case first =>
          cases C2
          · have EW : Hid (WW = X) := by
              show _ = _
              rw [HBW.out]
              split
              · rename_i hk3
                have h2 := HC2.out
                rw [decide_eq_true hk3, Bool.true_and] at h2
                unfold cutL
                rw [if_neg (of_decide_eq_false h2.symm)]
              · rfl
            go_wp2_with fail
            go_meet
            exact ⟨by rw [EW.out], rfl⟩
          · have h2 := HC2.out.symm
            rw [Bool.and_eq_true, decide_eq_true_eq, decide_eq_true_eq] at h2
            obtain ⟨hk3, hX0⟩ := h2
            have hX0I : (0 : Int) < (X.size : Int) := by omega
            have EW : Hid (WW = X.extract 0 (X.size - 1)) := by show _ = _; rw [HBW.out, if_pos hk3]; unfold cutL; rw [if_pos hX0]
            go_wp2_with fail
            go_meet
            exact ⟨by rw [EW.out], rfl⟩
        case rest =>
          obtain ⟨rfl, rfl⟩ := hcut
          clear HBW hzx
          go_wp2_with fail
          refine (rParse_any WW _ (Nat.le_trans HBSK.out (by unfold maxLen; omega))).mono ?_
          rintro e w5 ⟨rfl, hb5⟩
          have hb6 := Below.trans hb5 (Below.mono (bgrow w5 (.cells #[.bool (parsedNeg WW), .string (parsedName WW)] 46)) hb5.size)
          have HK6 := hidIt (heap_alloc_new w5 (.cells #[.bool (parsedNeg WW), .string (parsedName WW)] 46))
          have HS6 := hidIt (HSR.out.more hb6)
          clear hb5 hb6 HSR
          cases ho : litOk WW
          · have hpe : parsedErr WW = 3 := by unfold parsedErr; rw [if_neg (by unfold litOk at ho; rw [ho]; decide)]
            have HN : Hid (¬ ruleK s ws = true) := by
              show ¬ _
              unfold ruleK
              rw [bw_bad ws k hlt (by rw [HWW.out]; exact ho)]
              simp
            rw [hpe]
            clear ho hpe
            go_upto_region 18 with (fail)
            obtain ⟨p6, hp6⟩ : ∃ p, p = w5.heap.size := ⟨_, rfl⟩
            rw [← hp6] at HK6 ⊢
            generalize (w5.alloc (.cells #[.bool (parsedNeg WW), .string (parsedName WW)] 46)) = w6 at *
            clear hp6
            have HS7 := HS6
            go_wp2_with (refine wpList_store_mid rfl 88 (.tmp 4) (.tmp 84) rfl w.heap.size 0 #[.int .i64 0, .bool false, .string ⟨#[]⟩, .int .i64 0, .int .i64 0, .string ⟨#[]⟩, .string ⟨#[]⟩, .bool false, .int .i64 0, .slice none 0 0, .bool false, .string ⟨#[]⟩, .string ⟨#[]⟩, .int .i64 0, .bool false, .string ⟨#[]⟩] rfl rfl (there_of5 (hidIt HS7.out.box).out rfl) (by kernel_rfl) (by simp [Value.oneCell']) ?_; refine Hid.out ?_)
            have HF2 : Hid ((w6.setCells w.heap.size 0 (#[.int .i64 0, .bool false, .string ⟨#[]⟩, .int .i64 0, .int .i64 0, .string ⟨#[]⟩, .string ⟨#[]⟩, .bool false, .int .i64 0, .slice none 0 0, .bool false, .string ⟨#[]⟩, .string ⟨#[]⟩, .int .i64 0, .bool false, .string ⟨#[]⟩] : Array Value).toList).heap[w.heap.size]? = some (.cells #[.int .i64 0, .bool false, .string ⟨#[]⟩, .int .i64 0, .int .i64 0, .string ⟨#[]⟩, .string ⟨#[]⟩, .bool false, .int .i64 0, .slice none 0 0, .bool false, .string ⟨#[]⟩, .string ⟨#[]⟩, .int .i64 0, .bool false, .string ⟨#[]⟩] 88 (0, 0))) := put16_heap (hidIt HS7.out.box).out (.int .i64 0) (.bool false) (.string ⟨#[]⟩) (.int .i64 0) (.int .i64 0) (.string ⟨#[]⟩) (.string ⟨#[]⟩) (.bool false) (.int .i64 0) (.slice none 0 0) (.bool false) (.string ⟨#[]⟩) (.string ⟨#[]⟩) (.int .i64 0) (.bool false) (.string ⟨#[]⟩)
            have HBF : Hid (Below w.heap.size w (w6.setCells w.heap.size 0 (#[.int .i64 0, .bool false, .string ⟨#[]⟩, .int .i64 0, .int .i64 0, .string ⟨#[]⟩, .string ⟨#[]⟩, .bool false, .int .i64 0, .slice none 0 0, .bool false, .string ⟨#[]⟩, .string ⟨#[]⟩, .int .i64 0, .bool false, .string ⟨#[]⟩] : Array Value).toList)) := put16_below (hidIt HS7.out.bel).out (Nat.le_refl _) (.int .i64 0) (.bool false) (.string ⟨#[]⟩) (.int .i64 0) (.int .i64 0) (.string ⟨#[]⟩) (.string ⟨#[]⟩) (.bool false) (.int .i64 0) (.slice none 0 0) (.bool false) (.string ⟨#[]⟩) (.string ⟨#[]⟩) (.int .i64 0) (.bool false) (.string ⟨#[]⟩)
            refine hidIt ?_
            generalize (w6.setCells w.heap.size 0 (#[.int .i64 0, .bool false, .string ⟨#[]⟩, .int .i64 0, .int .i64 0, .string ⟨#[]⟩, .string ⟨#[]⟩, .bool false, .int .i64 0, .slice none 0 0, .bool false, .string ⟨#[]⟩, .string ⟨#[]⟩, .int .i64 0, .bool false, .string ⟨#[]⟩] : Array Value).toList) = w9 at *
            obtain ⟨z0, z1, z2, z3, z4, z5, z6, z7, z8, z9, za, zb, zc, zd, ze, zf⟩ := bcell16 HF2.out
            have lz := lt_of_block HF2.out
            go_wp2_with fail
            refine bodyPost_ret (v := .agg #[.int .i64 0, .bool false, .string ⟨#[]⟩, .int .i64 0, .int .i64 0, .string ⟨#[]⟩, .string ⟨#[]⟩, .bool false, .int .i64 0, .slice none 0 0, .bool false, .string ⟨#[]⟩, .string ⟨#[]⟩, .int .i64 0, .bool false, .string ⟨#[]⟩]) (by simp [results, Tryz.results105, go_sem, z0, z1, z2, z3, z4, z5, z6, z7, z8, z9, za, zb, zc, zd, ze, zf, lz]) rfl ?_
            exact ⟨_, rfl, ⟨.slice none 0 0, by rw [if_neg HN.out]; rfl, fun e => absurd e HN.out⟩, HBF.out⟩
          · have hpe : parsedErr WW = 0 := by unfold parsedErr; rw [if_pos (by unfold litOk at ho; exact ho)]
            rw [hpe]
            have HLO := hidIt ho
            clear ho hpe
            go_upto_region 19 with (fail)
            obtain ⟨p6, hp6⟩ : ∃ p, p = w5.heap.size := ⟨_, rfl⟩
            rw [← hp6] at HK6 ⊢
            generalize (w5.alloc (.cells #[.bool (parsedNeg WW), .string (parsedName WW)] 46)) = w6 at *
            clear hp6
            obtain ⟨k0, k1⟩ := bcell2r HK6.out
            have lk := lt_of_block HK6.out
            obtain ⟨x0, x1, x2, x3, x4, x5⟩ := bcell6 HS6.out.rul
            have lx := HS6.out.lt
            obtain ⟨ab, cb, rfl, -, -, -⟩ := HS6.out.own.form5
            have hgr7 := bgrow w6 (.cells #[.bool (parsedNeg WW), .string (parsedName WW)] 46)
            have HS7 := hidIt (HS6.out.more hgr7)
            have hyl : ((((ruleBw ws).take k).map litW).length : Int) ≤ 5000 ∧ (((ruleBw ws).take k).map litW).length ≤ 5000 := by
              rw [List.length_map, List.length_take]
              have := HRN.out
              omega
            obtain ⟨hyl1, hyl2⟩ := hyl
            generalize hYS : ((ruleBw ws).take k).map litW = ys at *
            have HYS := hidIt hYS
            clear hYS hgr7
            go_wp2_with (at_builtin; refine Hid.out ?_)
            refine hidIt ?_
            refine wpList_append_kb rfl _ _ elemLit rfl (R + 1) (.slice ab ys.length cb) ys.length (flatL ys) rfl HS7.out.own _ 1 rfl #[.bool (parsedNeg WW), .string (parsedName WW)] 46 (heap_alloc_new _ _) rfl (one_of (by rfl)) (by omega) (by have := HS7.out.lt; omega) ?_
            intro g8 c8 w8 hown8 hg8 hbl8
            have hR8 := (hg8.block R HS7.out.lt (fun e => by have := (HS7.out.own.own_block R e.symm).1; omega)).trans HS7.out.rul
            have hS8 := HS7.out.grown (x := ⟨parsedNeg WW, parsedName WW⟩) hg8 hown8
            have HS8 := hidIt hS8
            have f83 := free_any hR8 3
            have l8 := lt_of_block hR8
            obtain ⟨y0, y1, y2, y3, y4, y5⟩ := bcell6 hR8
            clear x0 x1 x2 x3 x4 x5 lx k0 k1 lk hown8 hg8 hbl8 hR8 hS8 HS6 HS7
            go_wp2_with fail
            go_roundw
            case rel =>
              refine ⟨k + 1, .slice (some ⟨g8, 0, none⟩) (ys.length + 1) c8, by go_num, hlt, ?_, ?_⟩
              · show _ = _
                rw [bw_take ws k hlt, List.all_append, HAL.out, HWW.out]
                simp [HLO.out]
              · have e : ((ruleBw ws).take (k + 1)).map litW = ys ++ [⟨parsedNeg WW, parsedName WW⟩] := by
                  rw [bw_take ws k hlt, List.map_append, HYS.out, HWW.out]
                  rfl
                rw [e]
                exact HS8.out
            case measure => simp [intOf]; omega
      · have hkE : k = ruleN ws := by omega
        subst hkE
        have hkI : ¬ ((NX + ruleN ws : Nat) : Int) < (ws.length : Int) - 2 := by have := HRN.out; omega
        rw [bw_all] at HAL HSR
        exact absurd HCASE.out (by rw [HZ5.out, HAL.out]; decide)
end Go.Proofs.YtfcoplplkbeljaaGreatDoor
