/- build: the grounded labelling and its ranks. Label and Ranks; the chapter's first example. The grounded labelling is complete, and the least complete one; what ranks prove. There is a grounded labelling; what Check says of it and of others. -/
import Derived.Test.YtfiaoibfejginaaDoorZ4C
import Derived.Test.YtfiaoibfejginaaDoorG0U
import Derived.Deep.MidRow
import Derived.Test.YtfiaoibfejginaaDoorZ4L1K
import Derived.Test.YtfiaoibfejginaaDoorZ4A

namespace Go.Proofs.YtfiaoibfejginaaDoor
set_option linter.unusedVariables false
set_option linter.unusedSimpArgs false
open Go Go.RowKit Go.Sort

theorem there_ofM {w : World} {b : Nat} {o : Array Value} {t : TypeId} {n : Nat} (h : w.heap[b]? = some (.cells o t (0, 0))) (hs : o.size = n) : w.there b 0 n := fun j hj => by
  refine ⟨?_, ?_⟩
  · simp [World.cell?, h]; omega
  · simp [World.frozen?, h]
theorem setCells_pre {b : Nat} {t : TypeId} : ∀ (vs old pre : List Value) (w : World), w.heap[b]? = some (.cells (pre ++ old).toArray t (0, 0)) → old.length = vs.length → (w.setCells b pre.length vs).heap[b]? = some (.cells (pre ++ vs).toArray t (0, 0))
  | [], old, pre, w, h, hl => by
    have : old = [] := List.eq_nil_of_length_eq_zero hl
    subst this
    exact h
  | v :: vs, [], pre, w, h, hl => by cases hl
  | v :: vs, o :: old, pre, w, h, hl => by
    have h1 := set_cells (i := pre.length) (u := v) h
    have e : ((pre ++ o :: old).toArray).setIfInBounds pre.length v = ((pre ++ [v]) ++ old).toArray := by
      rw [List.setIfInBounds_toArray, List.set_append_right _ _ (Nat.le_refl _)]
      simp
    rw [e] at h1
    have h2 := setCells_pre vs old (pre ++ [v]) _ h1 (by simpa using hl)
    rw [List.length_append, List.length_singleton] at h2
    show ((w.setCell ⟨b, pre.length, none⟩ v).setCells b (pre.length + 1) vs).heap[b]? = _
    rw [h2, List.append_assoc]
    rfl
theorem setCells_whole {b : Nat} {t : TypeId} {w : World} {old : Array Value} (vs : Array Value) (h : w.heap[b]? = some (.cells old t (0, 0))) (hl : old.size = vs.size) : (w.setCells b 0 vs.toList).heap[b]? = some (.cells vs t (0, 0)) := by
  have := setCells_pre vs.toList old.toList [] w (by simpa using h) (by simpa using hl)
  simpa using this
theorem setCells_other {b k : Nat} (hk : k ≠ b) : ∀ (vs : List Value) (o : Nat) (w : World), (w.setCells b o vs).heap[k]? = w.heap[k]?
  | [], o, w => rfl
  | v :: vs, o, w => (setCells_other hk vs (o + 1) _).trans (Below.heap_setCell w ⟨b, o, none⟩ v k (by show k ≠ b; exact hk))
theorem setCells_below {B b : Nat} {a : World} (hb : B ≤ b) : ∀ (vs : List Value) (o : Nat) (w : World), Below B a w → Below B a (w.setCells b o vs)
  | [], _, _, h => h
  | v :: vs, o, w, h => setCells_below hb vs (o + 1) _ (below_set5 h hb)

/-- How many attackers each node has among the first k attacks. -/
def opnK (ps : List (Int × Int)) (k : Nat) : List Int := (List.range 40).map fun i => ((ins (ps.take k) i).length : Int)
theorem opnK_len (ps : List (Int × Int)) (k : Nat) : (opnK ps k).length = 40 := by simp [opnK]
theorem opnK_none (ps : List (Int × Int)) : List.replicate 40 0 = opnK ps 0 := by
  symm
  unfold opnK
  rw [List.eq_replicate_iff]
  simp [ins]
theorem opnK_all (ps : List (Int × Int)) {k : Nat} (h : ps.length ≤ k) : opnK ps k = opn0 ps := by unfold opnK opn0; rw [List.take_of_length_le h]
theorem ins_len_le (ps : List (Int × Int)) (i : Nat) : (ins ps i).length ≤ ps.length := by unfold ins; rw [List.length_map]; exact List.length_filter_le _ _
theorem opnK_get {ps : List (Int × Int)} {k t : Nat} (h : t < (opnK ps k).length) : (opnK ps k)[t] = ((ins (ps.take k) t).length : Int) := by simp [opnK]
theorem opnK_step {ps : List (Int × Int)} {k : Nat} (h : k < ps.length) {g s : Nat} (he : ps[k] = ((g : Int), (s : Int))) : opnK ps (k + 1) = (opnK ps k).set s (((ins (ps.take k) s).length : Int) + 1) := by
  have key : ∀ i, (ins (ps.take (k + 1)) i).length = (ins (ps.take k) i).length + if i = s then 1 else 0 := fun i => by
    unfold ins
    rw [List.length_map, List.length_map, List.take_succ_eq_append_getElem h, List.filter_append, List.length_append, he]
    congr 1
    by_cases e : i = s
    · subst e; simp
    · have : ((s : Int) == (i : Int)) = false := beq_eq_false_iff_ne.2 (by omega)
      simp [e, this]
  apply List.ext_getElem
  · rw [List.length_set, opnK_len, opnK_len]
  · intro i h1 h2
    rw [List.getElem_set, opnK_get, opnK_get, key]
    by_cases e : s = i
    · subst e; rw [if_pos rfl, if_pos rfl]; rfl
    · rw [if_neg e, if_neg (Ne.symm e)]; rfl
namespace Own
def isIR (L N : Nat) (zs : List Int) : Value → World → Prop := fun v w => ∃ b : Nat, v = .slice (some ⟨b, 0, none⟩) N N ∧ L ≤ b ∧ IR w b zs
theorem isIR_up (L N : Nat) (zs : List Int) : GoesUp (isIR L N zs) := fun _ _ _ hg ⟨b, h1, h0, h2⟩ => ⟨b, h1, h0, h2.go hg⟩
def isNewM (L : Nat) (cs : Array Value) (t : TypeId) : Value → World → Prop := fun v w => ∃ nb : Nat, v = .pointer (some ⟨nb, 0, none⟩) ∧ L ≤ nb ∧ w.heap[nb]? = some (.cells cs t (0, 0))
theorem isNewM_up (L : Nat) (cs : Array Value) (t : TypeId) : GoesUp (isNewM L cs t) := fun _ _ _ hg ⟨nb, h1, h0, h2⟩ => ⟨nb, h1, h0, blk_kept2 h2 hg⟩
def isOne (z : Int) : Value → World → Prop := fun v w => ∃ b : Nat, v = .slice (some ⟨b, 0, none⟩) 1 1 ∧ w.heap[b]? = some (.cells #[.int .i64 z] 3 (0, 0))
theorem isOne_up (z : Int) : GoesUp (isOne z) := fun _ _ _ hg ⟨b, h1, h2⟩ => ⟨b, h1, blk_kept2 h2 hg⟩
end Own
theorem foldl_len {f : QS → Nat → QS} (hf : ∀ s t, s.q.length ≤ (f s t).q.length) : ∀ (l : List Nat) (s : QS), s.q.length ≤ (l.foldl f s).q.length
  | [], _ => Nat.le_refl _
  | t :: l, s => Nat.le_trans (hf s t) (foldl_len hf l (f s t))
theorem rejA_len (ps : List (Int × Int)) (s : QS) (i : Nat) : s.q.length ≤ (rejA ps s i).q.length := by
  have h1 : ∀ r (s : QS) t, s.q.length ≤ (cnt r s t).q.length := fun r s t => by unfold cnt acc; split <;> simp
  refine foldl_len (fun s t => ?_) _ _
  unfold hit
  split
  · exact foldl_len (h1 _) (outs ps t) ⟨s.lab.set t 2, s.rk.set t (s.rk.getD i 0), s.opn, s.q⟩
  · exact Nat.le_refl _
theorem outP_40 {N : Nat} {ps : List (Int × Int)} (hok : GOk (N : Int) ps) (j : Nat) : (outP ps j).length ≤ 40 := by
  rw [← outs_len]
  exact Nat.le_trans (nodup_lt_len N _ (outs_nodup hok.ix hok.nodup j) fun x hx => by have := outs_lt hok j x hx; omega) (by have := hok.n40; omega)
/-- What build gives. -/
def BuildOut (N : Nat) (ps : List (Int × Int)) (w : World) (e : Ending) (w' : World) : Prop := ∃ (L R : Nat) (lab rk : List Int), e = .returned (.tuple #[.slice (some ⟨L, 0, none⟩) N N, .slice (some ⟨R, 0, none⟩) N N]) ∧ IR w' L lab ∧ IR w' R rk ∧ GSpec N ps lab rk ∧ Below w.heap.size w w'

set_option maxRecDepth 100000 in
set_option maxHeartbeats 8000000 in
theorem build_any (N : Nat) (a : Option Addr) (c : Nat) (ps : List (Int × Int)) (w : World) (h : PairsAt w (.slice a ps.length c) ps) (hok : GOk (N : Int) ps) (hpl : ps.length ≤ 2000) :
    Calls Tryd.prog 44 #[.agg #[.int .i64 (N : Int), .slice a ps.length c]] w (BuildOut N ps w) := by
  have hgr := bgrow w (.cells #[.int .i64 (N : Int), .slice a ps.length c] 24)
  have H1 := hidIt (h.below hgr)
  have HB := hidIt hgr
  have HX := hidIt (heap_alloc_new w (.cells #[.int .i64 (N : Int), .slice a ps.length c] 24))
  have HG : Hid (GAt (w.heap.size + 1) (w.alloc (.cells #[.int .i64 (N : Int), .slice a ps.length c] 24)) a c ps) := ⟨w, h, Nat.le_succ _, hgr⟩
  have HOK := hidIt hok
  have HVE := hidIt (valE_of hok)
  have hN : N ≤ 40 := by have := hok.n40; omega
  clear h hgr hok
  go_enter Tryd.func44, Tryd.ntmps44
  go_upto_region 1 with (fail)
  generalize (w.alloc (.cells #[.int .i64 (N : Int), .slice a ps.length c] 24)) = w1 at *
  obtain ⟨P, hP⟩ : ∃ P, P = w.heap.size := ⟨_, rfl⟩
  have HP := hidIt hP
  rw [← hP] at HX HG ⊢
  clear hP
  obtain ⟨x0, x1⟩ := And.intro (cell_two0 HX.out) (cell_two1 HX.out)
  have lx := lt_of_block HX.out
  go_wp2_with fail
  refine (gValidate_any (N : Int) _ ps _ H1.out (by omega)).mono ?_
  rw [HVE.out]
  rintro e w3 ⟨rfl, hb3⟩
  have HX3 := hidIt (blk_kept2 HX.out hb3)
  have HB3 := hidIt (HB.out.trans (Below.mono hb3 HB.out.size))
  have HG3 := hidIt (HG.out.go (Below.mono hb3 (by have := lx; omega)))
  clear hb3 HB HX H1 HG x0 x1 lx
  obtain ⟨x0, x1⟩ := And.intro (cell_two0 HX3.out) (cell_two1 HX3.out)
  have lx := lt_of_block HX3.out
  go_wp2_with fail
  have X0 : ∀ wx, Ext w3 wx → wx.cell? ⟨P, 0, none⟩ = some (.int .i64 (N : Int)) := fun wx hC => ext_cell x0 lx hC
  have X1 : ∀ wx, Ext w3 wx → wx.cell? ⟨P, 1, none⟩ = some (.slice a ps.length c) := fun wx hC => ext_cell x1 lx hC
  have hmk := fun w => make_intsR N (by omega) w
  haveI : Nonempty (In (Ext w3)) := Ext.nonempty w3
  refine Own.wp_region_tail 10 (Ext w3) Grows (Own.relTab [(13, Own.rA (Own.isOne 3)), (16, Own.rO (Own.isIR w3.heap.size N (List.replicate N 3))), (19, Own.rO (Own.isIR w3.heap.size N (List.replicate N 0))), (4, Own.rO (Own.isNewM w3.heap.size (rCells 0 (.slice none 0 0) (.slice none 0 0) (.slice none 0 0) (.slice none 0 0) (List.replicate 40 0)) 83))]) (by kernel_rfl) (by kernel_rfl) (by kernel_rfl) (by kernel_rfl) (by kernel_rfl) (by kernel_rfl) (Own.stableO_cons (Own.isOne_up _) (Own.stableO_cons (Own.isIR_up _ _ _) (Own.stableO_cons (Own.isIR_up _ _ _) (Own.stableO_cons (Own.isNewM_up _ _ _) (Own.stableO_nil _))))) (Ext.start w3) ?_
  simp only [Own.idleTail]
  repeat (
    refine' Own.walkR_plain (by rfl) rfl rfl (fun wx hC hL => ?_) ?_
    rotate_left
    · (have hlw := Below.size hC
       have hlw1 := Nat.lt_of_lt_of_le lx hlw
       simp only [X0 wx hC, X1 wx hC, hlw1, go_sem]; first | done | (go_simp; exact ⟨rfl, rfl⟩))
    simp only [Act.put, List.setIfInBounds_toArray, List.set_cons_zero, List.set_cons_succ])
  -- the list of one label
  refine Own.walkR_rel (by kernel_rfl) rfl rfl (of_decide_eq_true (by kernel_rfl)) (fun wx hC hL => ?_) (fun v hv => ?_)
  · go_simp
    exact ⟨hC.grown (bgrow wx _), bgrow wx _, ⟨_, rfl, heap_alloc_new _ _⟩, fun h => by cases h⟩
  obtain ⟨_, _, ob, rfl, -⟩ := hv
  simp only [Act.put, List.setIfInBounds_toArray, List.set_cons_zero, List.set_cons_succ]
  repeat (
    refine' Own.walkR_plain (by rfl) rfl rfl (fun wx hC hL => ?_) ?_
    rotate_left
    · (have hlw := Below.size hC
       have hlw1 := Nat.lt_of_lt_of_le lx hlw
       simp only [X0 wx hC, X1 wx hC, hlw1, go_sem]; first | done | (go_simp; exact ⟨rfl, rfl⟩))
    simp only [Act.put, List.setIfInBounds_toArray, List.set_cons_zero, List.set_cons_succ])
  -- Repeat
  refine Own.walkR_rel (by kernel_rfl) rfl rfl (of_decide_eq_true (by kernel_rfl)) (fun wx hC hL => ?_) (fun v hv => ?_)
  · go_simp
    have h13 : Own.isOne 3 (.slice (some ⟨ob, 0, none⟩) 1 1) wx := hL.get 13 (by simp [Own.more]) (by kernel_rfl) rfl rfl
    obtain ⟨ob', e13, h13⟩ := h13
    injection e13 with e13
    injection e13 with e13
    injection e13 with e13
    subst e13
    refine (slRepeatI_any ob 0 1 3 N (by omega) wx (int_cell (ss := [3]) h13 0 (by decide)) (lt_of_block h13)).mono ?_
    rintro e w4 ⟨R, rfl, hR, hr4, hb4⟩
    exact ⟨_, rfl, Below.trans hC (Below.mono hb4 (Below.size hC)), hb4, ⟨R, rfl, Nat.le_trans (Below.size hC) hR, hr4⟩, fun _ b hb => by injection hb with hb; subst hb; exact ⟨hR, hr4.lt⟩⟩
  obtain ⟨_, _, lb, rfl, -, -⟩ := hv
  simp only [Act.put, List.setIfInBounds_toArray, List.set_cons_zero, List.set_cons_succ]
  repeat (
    refine' Own.walkR_plain (by rfl) rfl rfl (fun wx hC hL => ?_) ?_
    rotate_left
    · (have hlw := Below.size hC
       have hlw1 := Nat.lt_of_lt_of_le lx hlw
       simp only [X0 wx hC, X1 wx hC, hlw1, go_sem]; first | done | (go_simp; exact ⟨rfl, rfl⟩))
    simp only [Act.put, List.setIfInBounds_toArray, List.set_cons_zero, List.set_cons_succ])
  -- the row of ranks
  refine Own.walkR_rel (by kernel_rfl) rfl rfl (of_decide_eq_true (by kernel_rfl)) (fun wx hC hL => ?_) (fun v hv => ?_)
  · go_simp
    exact ⟨hC.grown (bgrow wx _), bgrow wx _, ⟨_, rfl, Below.size hC, heap_alloc_new _ _⟩, fun _ b hb => by injection hb with hb; subst hb; exact ⟨Nat.le_refl _, (heap_alloc_new _ _ |> lt_of_block)⟩⟩
  obtain ⟨_, _, rb, rfl, -, -⟩ := hv
  simp only [Act.put, List.setIfInBounds_toArray, List.set_cons_zero, List.set_cons_succ]
  repeat (
    refine' Own.walkR_plain (by rfl) rfl rfl (fun wx hC hL => ?_) ?_
    rotate_left
    · (have hlw := Below.size hC
       have hlw1 := Nat.lt_of_lt_of_le lx hlw
       simp only [X0 wx hC, X1 wx hC, hlw1, go_sem]; first | done | (go_simp; exact ⟨rfl, rfl⟩))
    simp only [Act.put, List.setIfInBounds_toArray, List.set_cons_zero, List.set_cons_succ])
  -- the struct
  refine Own.walkR_rel (by kernel_rfl) rfl rfl (of_decide_eq_true (by kernel_rfl)) (fun wx hC hL => ?_) (fun v hv => ?_)
  · go_simp
    exact ⟨hC.grown (bgrow wx _), bgrow wx _, ⟨_, rfl, Below.size hC, heap_alloc_new _ _⟩, fun _ b hb => by injection hb with hb; subst hb; exact ⟨Nat.le_refl _, (heap_alloc_new _ _ |> lt_of_block)⟩⟩
  obtain ⟨_, _, nb, rfl, -, -⟩ := hv
  simp only [Act.put, List.setIfInBounds_toArray, List.set_cons_zero, List.set_cons_succ]
  refine Own.walkR_idle (fun wx _ => Below.refl _ _) ?_
  refine fun w7 hE7 hK => ?_
  obtain ⟨lb', e16, hl0, hl1⟩ : Own.isIR w3.heap.size N (List.replicate N 3) (.slice (some ⟨lb, 0, none⟩) N N) w7 := hK.get 16 (by simp [Own.more]) rfl rfl
  obtain ⟨rb', e19, hr0, hr1⟩ : Own.isIR w3.heap.size N (List.replicate N 0) (.slice (some ⟨rb, 0, none⟩) N N) w7 := hK.get 19 (by simp [Own.more]) rfl rfl
  obtain ⟨nb', e4, hn0, hn1⟩ : Own.isNewM w3.heap.size (rCells 0 (.slice none 0 0) (.slice none 0 0) (.slice none 0 0) (.slice none 0 0) (List.replicate 40 0)) 83 (.pointer (some ⟨nb, 0, none⟩)) w7 := hK.get 4 (by simp [Own.more]) rfl rfl
  injection e16 with e16
  injection e16 with e16
  injection e16 with e16
  subst e16
  injection e19 with e19
  injection e19 with e19
  injection e19 with e19
  subst e19
  injection e4 with e4
  injection e4 with e4
  injection e4 with e4
  subst e4
  have a1 : Own.apartV (.slice (some ⟨lb, 0, none⟩) N N) (.slice (some ⟨rb, 0, none⟩) N N) := hK.ne 16 19 (by simp [Own.more]) (by simp [Own.more]) (by decide) rfl rfl rfl rfl rfl rfl
  have a2 : Own.apartV (.slice (some ⟨lb, 0, none⟩) N N) (.pointer (some ⟨nb, 0, none⟩)) := hK.ne 16 4 (by simp [Own.more]) (by simp [Own.more]) (by decide) rfl rfl rfl rfl rfl rfl
  have a3 : Own.apartV (.slice (some ⟨rb, 0, none⟩) N N) (.pointer (some ⟨nb, 0, none⟩)) := hK.ne 19 4 (by simp [Own.more]) (by simp [Own.more]) (by decide) rfl rfl rfl rfl rfl rfl
  have hlr : lb ≠ rb := fun e => a1 lb rfl (by rw [e]; rfl)
  have hln : lb ≠ nb := fun e => a2 lb rfl (by rw [e]; rfl)
  have hrn : rb ≠ nb := fun e => a3 rb rfl (by rw [e]; rfl)
  have hW7 : Below w3.heap.size w3 w7 := hE7
  have HX7 := hidIt (blk_kept2 HX3.out hW7)
  have HB7 := hidIt (HB3.out.trans (Below.mono hW7 HB3.out.size))
  have HG7 := hidIt (HG3.out.go (Below.mono hW7 (by have := lx; omega)))
  have HL7 := hidIt hl1
  have HR7 := hidIt hr1
  have HN7 := hidIt hn1
  have hPw3 : P < w3.heap.size := lx
  have ltl := hl1.lt
  have ltr := hr1.lt
  have ltn := lt_of_block hn1
  clear a1 a2 a3 hE7 hK hW7 hl1 hr1 hn1 X0 X1 x0 x1 lx hmk HX3 HB3 HG3
  simp only [List.drop_succ_cons, List.drop_zero]
  refine wpList_store_mid rfl 83 (.tmp 4) (.tmp 20) rfl nb 0 (rCells (N : Int) (.slice a ps.length c) (.slice (some ⟨lb, 0, none⟩) N N) (.slice (some ⟨rb, 0, none⟩) N N) (.slice none 0 0) (List.replicate 40 0)) rfl rfl (there_ofM HN7.out rfl) (by kernel_rfl) (by simp [Value.oneCell', rCells]) ?_
  have HRS : Hid (RS (P + 1) (w7.setCells nb 0 (rCells (N : Int) (.slice a ps.length c) (.slice (some ⟨lb, 0, none⟩) N N) (.slice (some ⟨rb, 0, none⟩) N N) (.slice none 0 0) (List.replicate 40 0)).toList).heap.size nb lb rb N a ps.length c none 0 (w7.setCells nb 0 (rCells (N : Int) (.slice a ps.length c) (.slice (some ⟨lb, 0, none⟩) N N) (.slice (some ⟨rb, 0, none⟩) N N) (.slice none 0 0) (List.replicate 40 0)).toList) ⟨List.replicate N 3, List.replicate N 0, opnK ps 0, []⟩) := by
    have hs8 := (setCells_below (B := w7.heap.size) (b := w7.heap.size) (Nat.le_refl _) [] 0 w7 (Below.refl _ _)).size
    have hsz : w7.heap.size ≤ (w7.setCells nb 0 (rCells (N : Int) (.slice a ps.length c) (.slice (some ⟨lb, 0, none⟩) N N) (.slice (some ⟨rb, 0, none⟩) N N) (.slice none 0 0) (List.replicate 40 0)).toList).heap.size := (setCells_below (B := 0) (b := nb) (Nat.zero_le _) (rCells (N : Int) (.slice a ps.length c) (.slice (some ⟨lb, 0, none⟩) N N) (.slice (some ⟨rb, 0, none⟩) N N) (.slice none 0 0) (List.replicate 40 0)).toList 0 w7 (Below.refl _ _)).size
    refine ⟨?_, (setCells_other (b := nb) (k := lb) hln _ 0 w7).trans HL7.out, (setCells_other (b := nb) (k := rb) hrn _ 0 w7).trans HR7.out, OwnI.nil _ _, ?_⟩
    · rw [← opnK_none]
      exact setCells_whole _ HN7.out rfl
    · refine ⟨by omega, by omega, by omega, by omega, by omega, by omega, fun e => hln e.symm, fun e => hrn e.symm, hlr⟩
  have HB8 := hidIt (setCells_below (B := w.heap.size) (b := nb) (by have := HP.out; omega) (rCells (N : Int) (.slice a ps.length c) (.slice (some ⟨lb, 0, none⟩) N N) (.slice (some ⟨rb, 0, none⟩) N N) (.slice none 0 0) (List.replicate 40 0)).toList 0 w7 HB7.out)
  have HX8 := hidIt ((setCells_other (b := nb) (k := P) (by omega) (rCells (N : Int) (.slice a ps.length c) (.slice (some ⟨lb, 0, none⟩) N N) (.slice (some ⟨rb, 0, none⟩) N N) (.slice none 0 0) (List.replicate 40 0)).toList 0 w7).trans HX7.out)
  have HG8 := hidIt (HG7.out.go (setCells_below (B := P + 1) (b := nb) (by omega) (rCells (N : Int) (.slice a ps.length c) (.slice (some ⟨lb, 0, none⟩) N N) (.slice (some ⟨rb, 0, none⟩) N N) (.slice none 0 0) (List.replicate 40 0)).toList 0 w7 (Below.refl _ _)))
  clear HL7 HR7 HN7 HB7 HX7 HG7
  generalize (w7.setCells nb 0 (rCells (N : Int) (.slice a ps.length c) (.slice (some ⟨lb, 0, none⟩) N N) (.slice (some ⟨rb, 0, none⟩) N N) (.slice none 0 0) (List.replicate 40 0)).toList) = w8 at *
  obtain ⟨x0, x1⟩ := And.intro (cell_two0 HX8.out) (cell_two1 HX8.out)
  have lx := lt_of_block HX8.out
  go_wp2_with fail
  clear x0 x1 lx hl0 hr0 hn0 hlr hln hrn ltl ltr ltn hPw3
  obtain ⟨K, hK⟩ : ∃ K, K = w8.heap.size := ⟨_, rfl⟩
  have HK := hidIt hK
  rw [← hK] at HRS
  clear hK
  obtain ⟨M, hM⟩ : ∃ M, M = ps.length := ⟨_, rfl⟩
  have HM := hidIt hM
  rw [← hM] at hpl HX8 HRS ⊢
  clear hM
  have HPB := hidIt HG8.out.pcb
  go_loopw [6, 24] (fun _ v24 wr => ∃ k : Nat, k ≤ M ∧ v24 = .int .i64 k ∧ Hid (RS (P + 1) K nb lb rb N a M c none 0 wr ⟨List.replicate N 3, List.replicate N 0, opnK ps k, []⟩) ∧ Hid (Below (P + 1) w8 wr)) (fun _ v24 _ => M - (intOf v24).toNat)
  case atStart => exact ⟨0, Nat.zero_le _, (by first | rfl | trivial), HRS.out, Below.refl _ _⟩
  case round =>
    clear HRS
    obtain ⟨k, hk, rfl, HA, HBr⟩ := hrel
    have hk0 : (0 : Int) ≤ (k : Int) := by omega
    by_cases hlt : k < M
    · have hkI : (k : Int) < (M : Int) := by omega
      have h1x : k < ps.length := by have := HM.out; omega
      obtain ⟨b1, o1, rfl, l1, hc1⟩ := (HPB.out.go HBr.out (Nat.le_refl _) (by have := lt_of_block HX8.out; omega)).at_ h1x
      obtain ⟨p0, p1⟩ := hc1 k h1x
      have hix := HOK.out.ix ps[k] (List.getElem_mem _)
      obtain ⟨g, t, hgs⟩ : ∃ g t : Nat, ps[k] = ((g : Int), (t : Int)) := ⟨ps[k].1.toNat, ps[k].2.toNat, Prod.ext (by simp only; omega) (by simp only; omega)⟩
      rw [hgs] at p0 p1 hix
      simp only at p0 p1 hix
      have ht40 : t < 40 := by omega
      have htI : (t : Int) < 40 := by omega
      have ht0 : (0 : Int) ≤ (t : Int) := by omega
      have HST := hidIt (opnK_step h1x hgs)
      have hcn := ins_len_le (ps.take k) t
      rw [List.length_take] at hcn
      have lb1 : b1 < wr.heap.size := by have := HA.out.szB; omega
      have hgr := bgrow wr (.cells #[.int .i64 (g : Int), .int .i64 (t : Int)] 45)
      have HQ := hidIt (heap_alloc_new wr (.cells #[.int .i64 (g : Int), .int .i64 (t : Int)] 45))
      have HA5 := hidIt (HA.out.go hgr)
      have HB5 := hidIt (HBr.out.trans (Below.mono hgr HA.out.szB))
      have hSQ : wr.heap.size ≠ nb := by have := HA.out.lt; omega
      clear hc1 hix hgs hgr HA HBr h1x
      go_upto_region 7 with (fail)
      generalize (wr.alloc (.cells #[.int .i64 (g : Int), .int .i64 (t : Int)] 45)) = w5 at *
      generalize wr.heap.size = Q at *
      clear p0 p1 l1 lb1
      obtain ⟨y0, y1⟩ := And.intro (cell_two0 HQ.out) (cell_two1 HQ.out)
      have ly := lt_of_block HQ.out
      have hto : t < (opnK ps k).length := by rw [opnK_len]; exact ht40
      have xo := HA5.out.co (t := t) hto
      have lx := HA5.out.lt
      have fo := free_any HA5.out.box (4 + t)
      rw [opnK_get] at xo
      have HSO := hidIt (HA5.out.setO (t := t) hto (((ins (ps.take k) t).length : Int) + 1))
      simp only [← HST.out] at HSO
      have HB6 : Hid (Below (P + 1) w8 (w5.setCell ⟨nb, 4 + t, none⟩ (.int .i64 (((ins (ps.take k) t).length : Int) + 1)))) := below_set5 HB5.out (by have := HA5.out.ord; omega)
      generalize (ins (ps.take k) t).length = o at *
      have hwr : IntKind.i64.wrap ((o : Int) + 1) = (o : Int) + 1 := IntWalk.i64_in _ (by omega)
      clear hto HA5 HB5 HQ
      go_wp2_with fail
      go_roundw
      case rel => exact ⟨k + 1, by omega, by go_num, HSO.out, HB6.out⟩
      case measure => simp [intOf]; omega
    · obtain rfl : k = M := by omega
      have hkI : ¬ (k : Int) < (k : Int) := by omega
      have HI : Hid (RS (P + 1) K nb lb rb N a k c none 0 wr (initS N ps 0)) := by
        have h := HA.out
        rw [opnK_all ps (by have := HM.out; omega)] at h
        show RS _ _ _ _ _ _ _ _ _ _ _ _ _
        rw [initS_none]
        exact h
      have HX9 := hidIt ((HBr.out.block P (Nat.lt_succ_self P)).trans HX8.out)
      have HB9 := hidIt (HB8.out.trans (Below.mono HBr.out (by have := HP.out; omega)))
      have HG9 := hidIt (HG8.out.go HBr.out)
      have HKW : Hid (K ≤ wr.heap.size) := by show K ≤ _; rw [HK.out]; exact HBr.out.size
      clear HA HBr HX8 HB8 HG8 HPB
      obtain ⟨x0, x1⟩ := And.intro (cell_two0 HX9.out) (cell_two1 HX9.out)
      have lx := lt_of_block HX9.out
      generalize wr = w9 at *
      go_wp2_with fail
      clear x0 x1 lx
      go_loopw [7, 39] (fun _ v39 wr => ∃ (i : Nat) (qa : Option Addr) (qc : Nat), i ≤ N ∧ v39 = .int .i64 i ∧ Hid (RS (P + 1) K nb lb rb N a k c qa qc wr (initS N ps i)) ∧ Hid (Below (P + 1) w9 wr)) (fun _ v39 _ => N - (intOf v39).toNat)
      case atStart => exact ⟨0, none, 0, Nat.zero_le _, (by first | rfl | trivial), HI.out, Below.refl _ _⟩
      case round =>
        clear HI
        obtain ⟨i, qa, qc, hi, rfl, HA, HBr⟩ := hrel
        have hi0 : (0 : Int) ≤ (i : Int) := by omega
        by_cases hlt2 : i < N
        · have hiI : (i : Int) < (N : Int) := by omega
          have hi40 : (i : Int) < 40 := by omega
          have hio : i < (initS N ps i).opn.length := by show i < (opn0 ps).length; simp [opn0]; omega
          have xo := HA.out.co (t := i) hio
          have lx := HA.out.lt
          have HST := hidIt (initS_step ps hlt2 hN)
          rw [getD_at hio] at HST
          have hlen : Hid ((initS N ps i).lab.length = N ∧ (initS N ps i).rk.length = N ∧ (initS N ps i).opn.length = 40 ∧ (initS N ps i).q.length ≤ 1000000) := by
            refine ⟨by simp [initS], by simp [initS], by simp [initS, opn0], ?_⟩
            have h1 : ((List.range i).filter (zer ps)).length ≤ i := by
              have := List.length_filter_le (zer ps) (List.range i)
              rwa [List.length_range] at this
            show ((List.range i).filter (zer ps)).length ≤ _
            omega
          generalize (initS N ps i).opn[i] = o at *
          by_cases ho : o = 0
          · have HC := hidIt (HST.out.trans (if_pos ho))
            subst ho
            go_wp2_with fail
            refine (accept_any (P + 1) K nb lb rb N a k c qa qc _ i 1 _ HA.out hlt2 hN hlen.out.1 hlen.out.2.1 hlen.out.2.2.1 hlen.out.2.2.2 (Nat.le_trans HKW.out HBr.out.size)).mono ?_
            rintro e w10 ⟨qa9, qc9, v9, rfl, ha9, hb9⟩
            have HAF := hidIt ha9
            have HBF := hidIt (HBr.out.trans hb9)
            clear ha9 hb9 HA HBr xo lx
            go_wp2_with fail
            go_roundw
            case rel => exact ⟨i + 1, qa9, qc9, by omega, by go_num, by rw [HC.out]; exact HAF.out, HBF.out⟩
            case measure => simp [intOf]; omega
          · have HC := hidIt (HST.out.trans (if_neg ho))
            have hob : (o == 0) = false := beq_eq_false_iff_ne.2 ho
            clear ho HST
            go_wp2_with fail
            go_roundw
            case rel => exact ⟨i + 1, qa, qc, by omega, by go_num, by rw [HC.out]; exact HA.out, HBr.out⟩
            case measure => simp [intOf]; omega
        · obtain rfl : i = N := by omega
          have hiI : ¬ (i : Int) < (i : Int) := by omega
          have HBND := hidIt (initS_bnd HOK.out.ix hN)
          have HA2 := HA
          have HB10 := hidIt (HB9.out.trans (Below.mono HBr.out (by have := HP.out; omega)))
          have HG10 := hidIt (HG9.out.go HBr.out)
          have HKW2 : Hid (K ≤ wr.heap.size) := Nat.le_trans HKW.out HBr.out.size
          clear HA HBr HX9 HB9 HG9 HKW
          generalize initS i ps i = s0 at *
          generalize wr = w10 at *
          go_wp2_with fail
          go_loopw [8] (fun v8 wr => ∃ (m : Nat) (s : QS) (qa : Option Addr) (qc : Nat), m ≤ s.q.length ∧ v8 = .int .i64 m ∧ Hid (Bnd i ps s m) ∧ Hid (RS (P + 1) K nb lb rb i a k c qa qc wr s) ∧ Hid (Below (P + 1) w10 wr)) (fun v8 _ => 41 - (intOf v8).toNat)
          case atStart => exact ⟨0, s0, qa, qc, Nat.zero_le _, (by first | rfl | trivial), HBND.out, HA2.out, Below.refl _ _⟩
          case round =>
            clear HBND HA2
            obtain ⟨m, s, qa, qc, hm, rfl, HBND, HA, HBr⟩ := hrel
            have hm0 : (0 : Int) ≤ (m : Int) := by omega
            have hql := HBND.out.qlen.1
            have hol : Hid (s.opn.length = 40 ∧ BB i s 5000) := by
              obtain ⟨⟨C, r, h1, h2, h3, h4, h5⟩, -⟩ := HBND.out
              exact ⟨h1.ol, h1.bb (by have := HM.out; omega) (by omega) (by omega)⟩
            have xq := HA.out.cq hol.out.1
            have lx := HA.out.lt
            by_cases hlt3 : m < s.q.length
            · have hmI : (m : Int) < (s.q.length : Int) := by omega
              have HSTEP := hidIt (HBND.out.step HOK.out.ix HOK.out.nodup hN hlt3)
              have hmq := HBND.out.qlen.2 _ (List.getElem_mem hlt3)
              have HMQ := hidIt hmq
              have h40 := hidIt (outP_40 HOK.out s.q[m])
              obtain ⟨a', c', he, hic⟩ := HA.out.own.il.ic
              injection he with he1 he2 he3
              subst he1
              obtain ⟨bq, oq, rfl, lq, hcq⟩ := hic.at_ (k := m) (by rw [intsN_len]; exact hlt3)
              have q0 := hcq m (by rw [intsN_len]; exact hlt3)
              rw [show (intsN s.q)[m]'(by rw [intsN_len]; exact hlt3) = (s.q[m] : Int) by simp [intsN]] at q0
              have HLE := hidIt (rejA_len ps s s.q[m])
              generalize s.q[m] = x at *
              have hm1 : Hid (m + 1 ≤ (rejA ps s x).q.length) := Nat.le_trans hlt3 HLE.out
              clear hic hcq he2 he3 hmq
              have hkl := HM.out
              subst hkl
              obtain ⟨QL, hQL⟩ : ∃ QL, QL = s.q.length := ⟨_, rfl⟩
              have HQL := hidIt hQL
              rw [← hQL] at xq hmI hql hlt3 hm
              clear hQL
              go_wp2_with fail
              refine (rejectAttacked_any (P + 1) K nb lb rb i a c ps _ qc s x 5000 _ HA.out HOK.out (by omega) (HG10.out.go HBr.out) HMQ.out hol.out.2 (by decide) (by decide) h40.out (Nat.le_trans HKW2.out HBr.out.size)).mono ?_
              rintro e w11 ⟨qa9, qc9, v9, rfl, ha9, hb9⟩
              have HAF := hidIt ha9
              have HBF := hidIt (HBr.out.trans hb9)
              clear ha9 hb9 HA HBr xq lx lq q0
              go_wp2_with fail
              go_roundw
              case rel => exact ⟨m + 1, _, qa9, qc9, hm1.out, by go_num, HSTEP.out, HAF.out, HBF.out⟩
              case measure => simp [intOf]; omega
            · obtain rfl : m = s.q.length := by omega
              have hmI : ¬ (s.q.length : Int) < (s.q.length : Int) := by omega
              have HSP := hidIt (HBND.out.spec HOK.out.ix)
              have HBE := hidIt (HB10.out.trans (Below.mono HBr.out (by have := HP.out; omega)))
              have HLE := hidIt HA.out.lab
              have HRE := hidIt HA.out.rk
              have x2 := HA.out.c2
              have x3 := HA.out.c3
              generalize s.q.length = QL at *
              go_wp2_with fail
              go_quiet (fail)
              have HLE2 := hidIt (HLE.out.go (below_drewN _ nq _))
              have HRE2 := hidIt (HRE.out.go (below_drewN _ nq _))
              have HBE2 := hidIt (HBE.out.trans (below_drewN _ nq _))
              go_wp2_with fail
              go_ret2
              exact ⟨lb, rb, s.lab, s.rk, rfl, HLE2.out, HRE2.out, HSP.out, HBE2.out⟩
end Go.Proofs.YtfiaoibfejginaaDoor

namespace Go.Proofs.YtfiaoibfejginaaDoor
set_option linter.unusedVariables false
set_option linter.unusedSimpArgs false
open Go Go.RowKit Go.Sort

/-- What Label and Ranks give. -/
def LabOut12 (N : Nat) (ps : List (Int × Int)) (w : World) (e : Ending) (w' : World) : Prop := ∃ (L : Nat) (lab rk : List Int), e = .returned (.slice (some ⟨L, 0, none⟩) N N) ∧ IR w' L lab ∧ GSpec N ps lab rk ∧ Below w.heap.size w w'
def RkOut12 (N : Nat) (ps : List (Int × Int)) (w : World) (e : Ending) (w' : World) : Prop := ∃ (L : Nat) (lab rk : List Int), e = .returned (.slice (some ⟨L, 0, none⟩) N N) ∧ IR w' L rk ∧ GSpec N ps lab rk ∧ Below w.heap.size w w'

set_option maxRecDepth 100000 in
set_option maxHeartbeats 1000000 in
theorem uLabel_any (N : Nat) (a : Option Addr) (c : Nat) (ps : List (Int × Int)) (w : World) (h : PairsAt w (.slice a ps.length c) ps) (hok : GOk (N : Int) ps) (hpl : ps.length ≤ 2000) :
    Calls Tryd.prog 25 #[.agg #[.int .i64 (N : Int), .slice a ps.length c]] w (LabOut12 N ps w) := by
  have hgr := bgrow w (.cells #[.int .i64 (N : Int), .slice a ps.length c] 24)
  have H1 := hidIt (h.below hgr)
  have HB := hidIt hgr
  have HX := hidIt (heap_alloc_new w (.cells #[.int .i64 (N : Int), .slice a ps.length c] 24))
  clear h hgr
  go_enter Tryd.func25, Tryd.ntmps25
  go_upto_region 1 with (fail)
  generalize (w.alloc (.cells #[.int .i64 (N : Int), .slice a ps.length c] 24)) = w1 at *
  obtain ⟨x0, x1⟩ := And.intro (cell_two0 HX.out) (cell_two1 HX.out)
  have lx := lt_of_block HX.out
  go_wp2_with fail
  refine (build_any N a c ps w1 H1.out hok hpl).mono ?_
  rintro e w2 ⟨L, R, lab, rk, rfl, hl, hr, hs, hb⟩
  have HL := hidIt hl
  have HS := hidIt hs
  have HB2 := hidIt (HB.out.trans (Below.mono hb HB.out.size))
  clear hl hr hs hb
  go_wp2_with fail
  go_ret
  exact ⟨L, lab, rk, rfl, HL.out, HS.out, HB2.out⟩
end Go.Proofs.YtfiaoibfejginaaDoor

namespace Go.Proofs.YtfiaoibfejginaaDoor
set_option linter.unusedVariables false
set_option linter.unusedSimpArgs false
open Go Go.RowKit Go.Sort

/-- Is it a complete labelling? -/
def compB (N : Nat) (ps : List (Int × Int)) (l : List Int) : Bool := validB N l && decide ((illL N ps l).length = 0)
theorem cnt_pos {N : Nat} {ps : List (Int × Int)} (hix : ∀ p ∈ ps, (0 ≤ p.1 ∧ p.1 < (N : Int)) ∧ (0 ≤ p.2 ∧ p.2 < (N : Int))) (l : List Int) (i x : Nat) : 0 < ((cntLb ps l i x : Nat) : Int) ↔ ∃ k, At ps k i ∧ l.getD k 0 = (x : Int) := by
  unfold cntLb At
  constructor
  · intro h
    obtain ⟨p, hp⟩ := List.exists_mem_of_length_pos (l := ps.filter fun p => p.2 == (i : Int) && l.getD p.1.toNat 0 == (x : Int)) (by omega)
    obtain ⟨hp, hq⟩ := List.mem_filter.1 hp
    rw [Bool.and_eq_true, beq_iff_eq, beq_iff_eq] at hq
    have := hix p hp
    refine ⟨p.1.toNat, ?_, hq.2⟩
    have e : ((p.1.toNat : Int), (i : Int)) = p := Prod.ext (by simp only; omega) hq.1.symm
    rw [e]; exact hp
  · rintro ⟨k, hk, hl⟩
    have : 0 < (ps.filter fun p => p.2 == (i : Int) && l.getD p.1.toNat 0 == (x : Int)).length := by
      refine List.length_pos_of_mem (List.mem_filter.2 ⟨hk, ?_⟩)
      rw [Bool.and_eq_true, beq_iff_eq, beq_iff_eq]
      exact ⟨rfl, by rw [Int.toNat_natCast]; exact hl⟩
    omega
/-- A complete labelling, said by attackers. -/
structure CmpG (N : Nat) (ps : List (Int × Int)) (l : List Int) : Prop where
  len : l.length = N
  ok : LabOk l
  two : ∀ i, i < N → (l.getD i 0 = 2 ↔ ∃ k, At ps k i ∧ l.getD k 0 = 1)
  one : ∀ i, i < N → (l.getD i 0 = 1 ↔ ∀ k, At ps k i → l.getD k 0 = 2)
theorem LabOk.get {l : List Int} (h : LabOk l) {i : Nat} (hi : i < l.length) : l.getD i 0 = 1 ∨ l.getD i 0 = 2 ∨ l.getD i 0 = 3 := by
  rw [getD_at hi]; exact h _ (List.getElem_mem hi)
theorem leg_iff {N : Nat} {ps : List (Int × Int)} (hix : ∀ p ∈ ps, (0 ≤ p.1 ∧ p.1 < (N : Int)) ∧ (0 ≤ p.2 ∧ p.2 < (N : Int))) {l : List Int} (hl : l.length = N) (ho : LabOk l) {i : Nat} (hi : i < N) :
    l.getD i 0 = legL ps l i ↔ (l.getD i 0 = 2 ↔ ∃ k, At ps k i ∧ l.getD k 0 = 1) ∧ (l.getD i 0 = 1 ↔ ∀ k, At ps k i → l.getD k 0 = 2) := by
  have h1 := cnt_pos hix l i 1
  have h3 := cnt_pos hix l i 3
  have hk : ∀ k, At ps k i → l.getD k 0 = 1 ∨ l.getD k 0 = 2 ∨ l.getD k 0 = 3 := fun k hk => ho.get (by rw [hl]; exact (at_lt hix hk).1)
  unfold legL legC
  have hi3 := ho.get (i := i) (by omega)
  by_cases c1 : 0 < ((cntLb ps l i 1 : Nat) : Int)
  · rw [if_pos c1]
    obtain ⟨k, ha, hb⟩ := h1.1 c1
    have hb : l.getD k 0 = 1 := hb
    constructor
    · intro e
      exact ⟨⟨fun _ => ⟨k, ha, hb⟩, fun _ => e⟩, ⟨fun e1 => by omega, fun hall => by have := hall k ha; omega⟩⟩
    · intro ⟨e, _⟩
      exact e.2 ⟨k, ha, hb⟩
  · rw [if_neg c1]
    have n1 : ¬ ∃ k, At ps k i ∧ l.getD k 0 = 1 := fun h => c1 (h1.2 h)
    by_cases c3 : 0 < ((cntLb ps l i 3 : Nat) : Int)
    · rw [if_pos c3]
      obtain ⟨k, ha, hb⟩ := h3.1 c3
      have hb : l.getD k 0 = 3 := hb
      constructor
      · intro e
        exact ⟨⟨fun e2 => by omega, fun h => absurd h n1⟩, ⟨fun e1 => by omega, fun hall => by have := hall k ha; omega⟩⟩
      · intro ⟨e, f⟩
        rcases hi3 with g | g | g
        · have := f.1 g k ha; omega
        · exact absurd (e.1 g) n1
        · exact g
    · rw [if_neg c3]
      have n3 : ¬ ∃ k, At ps k i ∧ l.getD k 0 = 3 := fun h => c3 (h3.2 h)
      have all : ∀ k, At ps k i → l.getD k 0 = 2 := fun k ha => by
        rcases hk k ha with g | g | g
        · exact absurd ⟨k, ha, g⟩ n1
        · exact g
        · exact absurd ⟨k, ha, g⟩ n3
      constructor
      · intro e
        exact ⟨⟨fun e2 => by omega, fun h => absurd h n1⟩, ⟨fun _ => all, fun _ => e⟩⟩
      · intro ⟨_, f⟩
        exact f.2 all
theorem mem_illLM {N i : Nat} {ps : List (Int × Int)} {l : List Int} (hi : i < N) (hl : l.length = N) (ho : LabOk l) : i ∈ illL N ps l ↔ l.getD i 0 ≠ legL ps l i := by
  unfold illL
  rw [if_pos (validB_iff.2 ⟨hl, ho⟩)]
  unfold illTo
  rw [List.mem_filter, List.mem_range, decide_eq_true_eq]
  exact ⟨fun h => h.2, fun h => ⟨hi, h⟩⟩
theorem comp_iff {N : Nat} {ps : List (Int × Int)} (hix : ∀ p ∈ ps, (0 ≤ p.1 ∧ p.1 < (N : Int)) ∧ (0 ≤ p.2 ∧ p.2 < (N : Int))) {l : List Int} : compB N ps l = true ↔ CmpG N ps l := by
  unfold compB
  rw [Bool.and_eq_true, decide_eq_true_eq, validB_iff]
  constructor
  · rintro ⟨⟨hl, ho⟩, h0⟩
    have key : ∀ i, i < N → l.getD i 0 = legL ps l i := fun i hi => Classical.byContradiction fun hne => by
      have := (mem_illLM (ps := ps) hi hl ho).2 hne
      rw [List.eq_nil_of_length_eq_zero h0] at this
      cases this
    exact ⟨hl, ho, fun i hi => ((leg_iff hix hl ho hi).1 (key i hi)).1, fun i hi => ((leg_iff hix hl ho hi).1 (key i hi)).2⟩
  · intro h
    refine ⟨⟨h.len, h.ok⟩, ?_⟩
    have : illL N ps l = [] := by
      rw [List.eq_nil_iff_forall_not_mem]
      intro i hi
      have hiN : i < N := by
        unfold illL at hi
        rw [if_pos (validB_iff.2 ⟨h.len, h.ok⟩)] at hi
        exact List.mem_range.1 (List.mem_filter.1 hi).1
      exact (mem_illLM hiN h.len h.ok).1 hi ((leg_iff hix h.len h.ok hiN).2 ⟨h.two i hiN, h.one i hiN⟩)
    rw [this]; rfl

section
variable {N : Nat} {ps : List (Int × Int)} (hix : ∀ p ∈ ps, (0 ≤ p.1 ∧ p.1 < (N : Int)) ∧ (0 ≤ p.2 ∧ p.2 < (N : Int)))
include hix
omit hix in
theorem GSpec.complete {lab rk : List Int} (h : GSpec N ps lab rk) : CmpG N ps lab := by
  refine ⟨h.ll, fun x hx => ?_, fun i hi => ⟨fun e => ?_, fun ⟨k, hk, hk1⟩ => ?_⟩, fun i hi => ⟨fun e k hk => ((h.inn i hi e).2.1 k hk).1, fun hall => ?_⟩⟩
  · obtain ⟨i, hi, rfl⟩ := List.getElem_of_mem hx
    have := h.lo i (by rw [← h.ll]; exact hi)
    rwa [getD_at hi] at this
  · obtain ⟨-, ⟨k, hk, hk1, -⟩, -⟩ := h.out i hi e
    exact ⟨k, hk, hk1⟩
  · rcases h.lo i hi with e | e | e
    · have := ((h.inn i hi e).2.1 k hk).1; omega
    · exact e
    · exact absurd hk1 ((h.und i hi e).2.2 k hk)
  · rcases h.lo i hi with e | e | e
    · exact e
    · obtain ⟨-, ⟨k, hk, hk1, -⟩, -⟩ := h.out i hi e
      have := hall k hk; omega
    · obtain ⟨-, ⟨k, hk, hk3⟩, -⟩ := h.und i hi e
      have := hall k hk; omega
/-- What the grounded labelling decides every complete one decides so. -/
theorem GSpec.least {lab rk y : List Int} (h : GSpec N ps lab rk) (hy : CmpG N ps y) : ∀ (m : Nat) (i : Nat), i < N → (rk.getD i 0).toNat ≤ m → (lab.getD i 0 = 1 → y.getD i 0 = 1) ∧ (lab.getD i 0 = 2 → y.getD i 0 = 2) := by
  intro m
  induction m with
  | zero =>
    intro i hi hm
    exact ⟨fun e => by have := (h.inn i hi e).1; omega, fun e => by have := (h.out i hi e).1; omega⟩
  | succ m ih =>
    have A : ∀ i, i < N → (rk.getD i 0).toNat ≤ m + 1 → lab.getD i 0 = 1 → y.getD i 0 = 1 := fun i hi hm e => by
      obtain ⟨g1, g2, -⟩ := h.inn i hi e
      refine (hy.one i hi).2 fun k hk => ?_
      obtain ⟨e1, e2⟩ := g2 k hk
      exact (ih k (at_lt hix hk).1 (by omega)).2 e1
    refine fun i hi hm => ⟨A i hi hm, fun e => ?_⟩
    obtain ⟨g1, ⟨k, hk, e1, e2⟩, -⟩ := h.out i hi e
    exact (hy.two i hi).2 ⟨k, hk, A k (at_lt hix hk).1 (by omega) e1⟩
theorem GSpec.least2 {lab rk y : List Int} (h : GSpec N ps lab rk) (hy : CmpG N ps y) {i : Nat} (hi : i < N) (e : lab.getD i 0 = 1 ∨ lab.getD i 0 = 2) : lab.getD i 0 = y.getD i 0 := by
  obtain ⟨h1, h2⟩ := h.least hix hy _ i hi (Nat.le_refl _)
  rcases e with e | e
  · rw [e, h1 e]
  · rw [e, h2 e]
/-- Ranks that prove a labelling. -/
structure Prov (N : Nat) (ps : List (Int × Int)) (l r : List Int) : Prop where
  inn : ∀ i, i < N → l.getD i 0 = 1 → 1 ≤ r.getD i 0 ∧ ∀ k, At ps k i → r.getD k 0 < r.getD i 0
  out : ∀ i, i < N → l.getD i 0 = 2 → ∃ k, At ps k i ∧ l.getD k 0 = 1 ∧ 1 ≤ r.getD k 0 ∧ r.getD k 0 ≤ r.getD i 0
omit hix in
theorem GSpec.prov {lab rk : List Int} (h : GSpec N ps lab rk) : Prov N ps lab rk := by
  refine ⟨fun i hi e => ?_, fun i hi e => ?_⟩
  · obtain ⟨g1, g2, -⟩ := h.inn i hi e
    exact ⟨g1, fun k hk => (g2 k hk).2⟩
  · obtain ⟨g1, ⟨k, hk, e1, e2⟩, -⟩ := h.out i hi e
    exact ⟨k, hk, e1, by omega, by omega⟩
theorem prov_in {lab rk z r : List Int} (h : GSpec N ps lab rk) (hz : CmpG N ps z) (hp : Prov N ps z r) : ∀ (m : Nat) (i : Nat), i < N → (r.getD i 0).toNat ≤ m → (z.getD i 0 = 1 → lab.getD i 0 = 1) ∧ (z.getD i 0 = 2 → lab.getD i 0 = 2) := by
  have hc := h.complete
  intro m
  induction m with
  | zero =>
    intro i hi hm
    exact ⟨fun e => by have := (hp.inn i hi e).1; omega, fun e => by obtain ⟨k, -, -, h1, h2⟩ := hp.out i hi e; omega⟩
  | succ m ih =>
    have A : ∀ i, i < N → (r.getD i 0).toNat ≤ m + 1 → z.getD i 0 = 1 → lab.getD i 0 = 1 := fun i hi hm e => by
      obtain ⟨g1, g2⟩ := hp.inn i hi e
      refine (hc.one i hi).2 fun k hk => ?_
      have e2 := (hz.one i hi).1 e k hk
      have := g2 k hk
      exact (ih k (at_lt hix hk).1 (by omega)).2 e2
    refine fun i hi hm => ⟨A i hi hm, fun e => ?_⟩
    obtain ⟨k, hk, e1, h1, h2⟩ := hp.out i hi e
    exact (hc.two i hi).2 ⟨k, hk, A k (at_lt hix hk).1 (by omega) e1⟩
/-- No ranks prove another complete labelling. -/
theorem prov_same {lab rk z r : List Int} (h : GSpec N ps lab rk) (hz : CmpG N ps z) (hp : Prov N ps z r) : lab = z := by
  refine getD_eq h.ll hz.len fun i hi => ?_
  rcases h.lo i hi with e | e | e
  · exact h.least2 hix hz hi (.inl e)
  · exact h.least2 hix hz hi (.inr e)
  · obtain ⟨k1, k2⟩ := prov_in hix h hz hp _ i hi (Nat.le_refl _)
    rcases hz.ok.get (i := i) (by rw [hz.len]; exact hi) with f | f | f
    · have := k1 f; omega
    · have := k2 f; omega
    · omega
/-- Without an undecided node it is the only complete labelling. -/
theorem only_complete {lab rk z : List Int} (h : GSpec N ps lab rk) (hn : ∀ i, i < N → lab.getD i 0 ≠ 3) (hz : CmpG N ps z) : lab = z := by
  refine getD_eq h.ll hz.len fun i hi => h.least2 hix hz hi ?_
  rcases h.lo i hi with e | e | e
  · exact .inl e
  · exact .inr e
  · exact absurd e (hn i hi)
/-- Where attacks go upwards alone nothing is undecided. -/
theorem up_decided {lab rk : List Int} (h : GSpec N ps lab rk) (hup : ∀ k i, At ps k i → k < i) : ∀ i, i < N → lab.getD i 0 ≠ 3 := by
  intro i
  induction i using Nat.strongRecOn with
  | _ i ih =>
    intro hi e
    obtain ⟨-, ⟨k, hk, hk3⟩, -⟩ := h.und i hi e
    exact ih k (hup k i hk) (at_lt hix hk).1 hk3
end
end Go.Proofs.YtfiaoibfejginaaDoor

namespace Go.Proofs.YtfiaoibfejginaaDoor
set_option linter.unusedVariables false
set_option linter.unusedSimpArgs false
open Go Go.RowKit Go.Sort

theorem bnd_run {N : Nat} {ps : List (Int × Int)} (hok : GOk (N : Int) ps) (hN : N ≤ 40) : ∀ (fuel m : Nat) (s : QS), Bnd N ps s m → m ≤ s.q.length → N - m ≤ fuel → ∃ s', Bnd N ps s' s'.q.length
  | fuel, m, s, h, hm, hf => by
    by_cases e : m < s.q.length
    · have h2 := h.step hok.ix hok.nodup hN e
      have h3 := rejA_len ps s s.q[m]
      have h4 := h.qlen.1
      match fuel, hf with
      | 0, hf => omega
      | f + 1, hf => exact bnd_run hok hN f (m + 1) _ h2 (by omega) (by omega)
    · obtain rfl : m = s.q.length := by omega
      exact ⟨s, h⟩
theorem gspec_ex {N : Nat} {ps : List (Int × Int)} (hok : GOk (N : Int) ps) : ∃ lab rk, GSpec N ps lab rk := by
  have hN : N ≤ 40 := by have := hok.n40; omega
  obtain ⟨s, hs⟩ := bnd_run hok hN N 0 _ (initS_bnd hok.ix hN) (Nat.zero_le _) (Nat.sub_le _ _)
  exact ⟨s.lab, s.rk, hs.spec hok.ix⟩
end Go.Proofs.YtfiaoibfejginaaDoor
