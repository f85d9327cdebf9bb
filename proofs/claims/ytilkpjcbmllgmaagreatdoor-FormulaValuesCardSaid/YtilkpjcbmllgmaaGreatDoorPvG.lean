/- The law FormulaValues: the call answers true for every two formulas, every name, every list of names and every list of numbers. The package's table of signs: what the row's condition gives the walks, and the world of the witness. -/
import Derived.Test.YtilkpjcbmllgmaaGreatDoorCards
import Derived.Test.YtilkpjcbmllgmaaGreatDoorTie
import Derived.ProofKit
import Derived.OpenShut
import Derived.Deep.DeepHandedRow
import Derived.Lib.LaidTab
import Derived.Test.YtilkpjcbmllgmaaGreatDoorPvA
import Derived.Test.YtilkpjcbmllgmaaGreatDoorPvB
import Derived.Test.YtilkpjcbmllgmaaGreatDoorPvC
import Derived.Test.YtilkpjcbmllgmaaGreatDoorPvD
import Derived.Test.YtilkpjcbmllgmaaGreatDoorPvE
import Derived.Test.YtilkpjcbmllgmaaGreatDoorPvF

namespace Go.Proofs.YtilkpjcbmllgmaaGreatDoor
set_option linter.unusedVariables false
set_option linter.unusedSimpArgs false
open Go Go.RowKit

/-- These strings, wherever they lie. -/
def isSV (l : List ByteArray) : Value → World → Prop := fun v w => StrsV w v l
theorem isSV_up (l : List ByteArray) : GoesUp (isSV l) := fun _ _ _ hg h => h.go hg
def isV (x : Value) : Value → World → Prop := fun v _ => v = x
theorem isV_up (x : Value) : GoesUp (isV x) := fun _ _ _ _ h => h

theorem RowFn.kept {n b g : Nat} {w w' : World} (h : RowFn n b g w) (hl : g < w.heap.size) (hne : g ≠ b) (hg : w.grownBy w' (some b)) : RowFn n b g w' := by
  obtain ⟨g', e, -, -, h4⟩ := isRowFn_kept hg (⟨g, rfl, hne, hl, h⟩ : isRowFn n b (.slice (some ⟨g, 0, none⟩) n n) w)
  injection e with e
  injection e with e
  injection e with e
  subst e
  exact h4
theorem below_dn {B : Nat} {a w : World} (h : Below B a w) (n : Nat) : Below B a (w.drewN n) := ⟨h.os, h.tape, h.output, h.size, h.block⟩
theorem FMade.rel {w : World} {t : Tree} {e : Ending} {w' : World} (h : FMade w t e w') : ∃ u, e = .returned u ∧ isForm anyS t u w' ∧ Below w.heap.size w w' := by
  obtain ⟨_, _, _, _, _, he, hfm, hb⟩ := h
  exact ⟨_, he, FormIn.mono hfm (fun _ _ _ => anyS_all _), hb⟩

set_option maxRecDepth 100000 in
set_option maxHeartbeats 8000000 in
theorem fvals_walk (v0 : Value) (t0 : Tree) (v1 : Value) (t1 : Tree) (q : ByteArray) (yv : Value) (ly : List ByteArray) (v : Value) (zs : List Int) (w : World) (h0 : FormAt w none v0 t0) (h1 : FormAt w none v1 t1) (hq : q.size ≤ maxLen) (hy : StrsArg w yv ly) (hz : IntsAt w w.heap.size v zs) (hsg : SignsAt w) :
    Calls Tryz.prog 3 #[v0, v1, .string q, yv, v] w fun e w' => e = .returned (.bool true) ∧ Below w.heap.size w w' := by
  obtain ⟨ya, yc, rfl, hyl, hyc, hys⟩ := hy
  obtain ⟨a0, cap0, -, -, rfl, -, -, -, -, -, -⟩ := h0.form
  obtain ⟨a1, cap1, -, -, rfl, -, -, -, -, -, -⟩ := h1.form
  have hgr : Below w.heap.size w ((w.alloc (.cells #[.int .i64 t0.op, .string t0.name, .slice a0 t0.args.length cap0] 24)).alloc (.cells #[.int .i64 t1.op, .string t1.name, .slice a1 t1.args.length cap1] 24)) := (Grows.alloc _ _).trans (Below.mono (Grows.alloc _ _) (by simp))
  have HSG := hidIt hsg
  have HFA0 := hidIt (FormAt.go h0 hgr)
  have HFB0 := hidIt (FormAt.go h1 hgr)
  have HKA0 : Hid (((w.alloc (.cells #[.int .i64 t0.op, .string t0.name, .slice a0 t0.args.length cap0] 24)).alloc (.cells #[.int .i64 t1.op, .string t1.name, .slice a1 t1.args.length cap1] 24)).heap[w.heap.size]? = some (.cells #[.int .i64 t0.op, .string t0.name, .slice a0 t0.args.length cap0] 24 (0, 0))) := blk_kept (heap_alloc_new w _) (Grows.alloc _ _)
  have HKB0 : Hid (((w.alloc (.cells #[.int .i64 t0.op, .string t0.name, .slice a0 t0.args.length cap0] 24)).alloc (.cells #[.int .i64 t1.op, .string t1.name, .slice a1 t1.args.length cap1] 24)).heap[w.heap.size + 1]? = some (.cells #[.int .i64 t1.op, .string t1.name, .slice a1 t1.args.length cap1] 24 (0, 0))) := heap_alloc_at (by simp)
  have HZ0 : Hid (IntsAt ((w.alloc (.cells #[.int .i64 t0.op, .string t0.name, .slice a0 t0.args.length cap0] 24)).alloc (.cells #[.int .i64 t1.op, .string t1.name, .slice a1 t1.args.length cap1] 24)) w.heap.size v zs) := hz.kept (only_of_below hgr none) (fun g e => by cases e)
  have HY0 : Hid (StrsIn ((w.alloc (.cells #[.int .i64 t0.op, .string t0.name, .slice a0 t0.args.length cap0] 24)).alloc (.cells #[.int .i64 t1.op, .string t1.name, .slice a1 t1.args.length cap1] 24)) (fun i => i < w.heap.size) ya ly) := (hys.mono (S' := fun i => i < w.heap.size) fun i hi _ => hi).go hgr
  have HB0 := hidIt hgr
  have HQ := hidIt hq
  unfold maxLen at hyc hq
  clear hsg h0 h1 hz hgr hys
  go_enter Tryz.func3, Tryz.ntmps3
  go_wp2_with fail
  generalize hWa : ((w.alloc (.cells #[.int .i64 t0.op, .string t0.name, .slice a0 t0.args.length cap0] 24)).alloc (.cells #[.int .i64 t1.op, .string t1.name, .slice a1 t1.args.length cap1] 24)) = w0 at *
  clear hWa
  have hpb : w.heap.size + 1 ≠ w.heap.size := by omega
  generalize hpbe : w.heap.size + 1 = pb at *
  obtain ⟨A0, A1, A2⟩ := cell_of3 HKA0.out
  obtain ⟨B0, B1, B2⟩ := cell_of3 HKB0.out
  have hal := lt_of_block HKA0.out
  have hbl := lt_of_block HKB0.out
  have X0 : ∀ wx, Ext w0 wx → wx.cell? ⟨w.heap.size, 0, none⟩ = some (.int .i64 t0.op) := fun wx hC => Ext.cell A0 ⟨wx, hC⟩
  have X1 : ∀ wx, Ext w0 wx → wx.cell? ⟨w.heap.size, 1, none⟩ = some (.string t0.name) := fun wx hC => Ext.cell A1 ⟨wx, hC⟩
  have X2 : ∀ wx, Ext w0 wx → wx.cell? ⟨w.heap.size, 2, none⟩ = some (.slice a0 t0.args.length cap0) := fun wx hC => Ext.cell A2 ⟨wx, hC⟩
  have Y0 : ∀ wx, Ext w0 wx → wx.cell? ⟨pb, 0, none⟩ = some (.int .i64 t1.op) := fun wx hC => Ext.cell B0 ⟨wx, hC⟩
  have Y1 : ∀ wx, Ext w0 wx → wx.cell? ⟨pb, 1, none⟩ = some (.string t1.name) := fun wx hC => Ext.cell B1 ⟨wx, hC⟩
  have Y2 : ∀ wx, Ext w0 wx → wx.cell? ⟨pb, 2, none⟩ = some (.slice a1 t1.args.length cap1) := fun wx hC => Ext.cell B2 ⟨wx, hC⟩
  obtain ⟨s0, hs0⟩ : ∃ s0, (decide (t0.nodes ≤ 800) && decide (t0.depth ≤ 30) && t0.all shortB) = s0 := ⟨_, rfl⟩
  obtain ⟨s1, hs1⟩ : ∃ s1, (decide (t1.nodes ≤ 800) && decide (t1.depth ≤ 30) && t1.all shortB) = s1 := ⟨_, rfl⟩
  have HS0 := hidIt (fun h : s0 = true => by rw [h, Bool.and_eq_true, Bool.and_eq_true, decide_eq_true_eq] at hs0; exact hs0.1.1)
  have HS1 := hidIt (fun h : s1 = true => by rw [h, Bool.and_eq_true, Bool.and_eq_true, decide_eq_true_eq] at hs1; exact hs1.1.1)
  obtain ⟨x, hx⟩ : ∃ x, min t0.nodes (60 + 1) = x := ⟨_, rfl⟩
  obtain ⟨y, hy⟩ : ∃ y, min t1.nodes (60 + 1) = y := ⟨_, rfl⟩
  have H1 : Hid (∀ wx, Ext w0 wx → Calls Tryz.prog 7 #[.agg #[.int .i64 t0.op, .string t0.name, .slice a0 t0.args.length cap0]] wx fun e w'' => ∃ u, e = .returned u ∧ Ext w0 w'' ∧ Grows wx w'' ∧ isV (.bool s0) u w'') := fun wx hC => rel_call hC ((ksmall_any t0 _ _ (hC.form HFA0.out)).mono fun e w'' ⟨he, hb⟩ => ⟨_, he, by rw [hs0]; rfl, hb⟩)
  have H2 : Hid (∀ wx, Ext w0 wx → Calls Tryz.prog 7 #[.agg #[.int .i64 t1.op, .string t1.name, .slice a1 t1.args.length cap1]] wx fun e w'' => ∃ u, e = .returned u ∧ Ext w0 w'' ∧ Grows wx w'' ∧ isV (.bool s1) u w'') := fun wx hC => rel_call hC ((ksmall_any t1 _ _ (hC.form HFB0.out)).mono fun e w'' ⟨he, hb⟩ => ⟨_, he, by rw [hs1]; rfl, hb⟩)
  have H3 : Hid (∀ wx, Ext w0 wx → Calls Tryz.prog 8 #[.agg #[.int .i64 t0.op, .string t0.name, .slice a0 t0.args.length cap0], .int .i64 60] wx fun e w'' => ∃ u, e = .returned u ∧ Ext w0 w'' ∧ Grows wx w'' ∧ isV (.int .i64 (x : Int)) u w'') := fun wx hC => rel_call hC ((knodes_any t0 60 _ _ (hC.form HFA0.out) (by omega)).mono fun e w'' ⟨he, hb⟩ => ⟨_, he, by rw [hx]; rfl, hb⟩)
  have H4 : Hid (∀ wx, Ext w0 wx → Calls Tryz.prog 8 #[.agg #[.int .i64 t1.op, .string t1.name, .slice a1 t1.args.length cap1], .int .i64 60] wx fun e w'' => ∃ u, e = .returned u ∧ Ext w0 w'' ∧ Grows wx w'' ∧ isV (.int .i64 (y : Int)) u w'') := fun wx hC => rel_call hC ((knodes_any t1 60 _ _ (hC.form HFB0.out) (by omega)).mono fun e w'' ⟨he, hb⟩ => ⟨_, he, by rw [hy]; rfl, hb⟩)
  have hmul : IntKind.i64.wrap ((x : Int) * (y : Int)) = ((x * y : Nat) : Int) := by
    have h1 : x ≤ 61 := by omega
    have h2 : y ≤ 61 := by omega
    have h3 := Nat.mul_le_mul h1 h2
    rw [← Int.natCast_mul, IntWalk.i64_in _ (by omega)]
  clear hs0 hs1 hx hy A0 A1 A2 B0 B1 B2
  have fin : Hid (∀ wx, Ext w0 wx → Below w.heap.size w wx) := fun wx hC => HB0.out.trans (Below.mono hC HB0.out.size)
  haveI : Nonempty (In (Ext w0)) := Ext.nonempty w0
  cases s0
  case false =>
    refine wp_region_rel (Ext w0) Grows (relTab [(24, isV (.bool false)), (28, isV (.bool s1)), (43, isV (.int .i64 (x : Int))), (45, isV (.int .i64 (y : Int)))]) (by kernel_rfl) (by kernel_rfl) (by kernel_rfl) (stable_cons (isV_up _) (stable_cons (isV_up _) (stable_cons (isV_up _) (stable_cons (isV_up _) (stable_nil _))))) (Ext.start w0) ?_
    repeat (first
      | (refine walkR_skip (by rfl) ?_
         simp only [Act.put, List.setIfInBounds_toArray, List.set_cons_zero, List.set_cons_succ])
      | (refine' walkR_plain (by kernel_rfl) rfl rfl (fun wx hC hL => ?_) ?_
         rotate_left
         · (have hlw := Nat.lt_of_lt_of_le hal (Below.size hC)
            have hlg := Nat.lt_of_lt_of_le hbl (Below.size hC)
            simp only [X0 wx hC, X1 wx hC, X2 wx hC, Y0 wx hC, Y1 wx hC, Y2 wx hC, hlw, hlg, go_sem]; first | done | (go_simp; exact ⟨rfl, rfl⟩))
         simp only [Act.put, List.setIfInBounds_toArray, List.set_cons_zero, List.set_cons_succ]))
    refine walkR_rel (by kernel_rfl) rfl rfl (of_decide_eq_true (by kernel_rfl)) (fun wx hC hL => ?_) (fun v hv => ?_)
    · go_simp
      exact H1.out wx hC
    obtain ⟨_, _, rfl⟩ := hv
    simp only [Act.put, List.setIfInBounds_toArray, List.set_cons_zero, List.set_cons_succ]
    repeat (first
      | (refine walkR_skip (by rfl) ?_
         simp only [Act.put, List.setIfInBounds_toArray, List.set_cons_zero, List.set_cons_succ])
      | (refine' walkR_plain (by kernel_rfl) rfl rfl (fun wx hC hL => ?_) ?_
         rotate_left
         · (have hlw := Nat.lt_of_lt_of_le hal (Below.size hC)
            have hlg := Nat.lt_of_lt_of_le hbl (Below.size hC)
            simp only [X0 wx hC, X1 wx hC, X2 wx hC, Y0 wx hC, Y1 wx hC, Y2 wx hC, hlw, hlg, go_sem]; first | done | (go_simp; exact ⟨rfl, rfl⟩))
         simp only [Act.put, List.setIfInBounds_toArray, List.set_cons_zero, List.set_cons_succ]))
    refine fun w5 hC5 _ => ?_
    have HB5 := hidIt (fin.out w5 hC5)
    clear hC5
    go_wp2_with fail
    go_ret
    exact ⟨rfl, HB5.out⟩
  case true =>
  cases s1
  case false =>
    refine wp_region_rel (Ext w0) Grows (relTab [(24, isV (.bool true)), (28, isV (.bool false)), (43, isV (.int .i64 (x : Int))), (45, isV (.int .i64 (y : Int)))]) (by kernel_rfl) (by kernel_rfl) (by kernel_rfl) (stable_cons (isV_up _) (stable_cons (isV_up _) (stable_cons (isV_up _) (stable_cons (isV_up _) (stable_nil _))))) (Ext.start w0) ?_
    repeat (first
      | (refine walkR_skip (by rfl) ?_
         simp only [Act.put, List.setIfInBounds_toArray, List.set_cons_zero, List.set_cons_succ])
      | (refine' walkR_plain (by kernel_rfl) rfl rfl (fun wx hC hL => ?_) ?_
         rotate_left
         · (have hlw := Nat.lt_of_lt_of_le hal (Below.size hC)
            have hlg := Nat.lt_of_lt_of_le hbl (Below.size hC)
            simp only [X0 wx hC, X1 wx hC, X2 wx hC, Y0 wx hC, Y1 wx hC, Y2 wx hC, hlw, hlg, go_sem]; first | done | (go_simp; exact ⟨rfl, rfl⟩))
         simp only [Act.put, List.setIfInBounds_toArray, List.set_cons_zero, List.set_cons_succ]))
    refine walkR_rel (by kernel_rfl) rfl rfl (of_decide_eq_true (by kernel_rfl)) (fun wx hC hL => ?_) (fun v hv => ?_)
    · go_simp
      exact H1.out wx hC
    obtain ⟨_, _, rfl⟩ := hv
    simp only [Act.put, List.setIfInBounds_toArray, List.set_cons_zero, List.set_cons_succ]
    repeat (first
      | (refine walkR_skip (by rfl) ?_
         simp only [Act.put, List.setIfInBounds_toArray, List.set_cons_zero, List.set_cons_succ])
      | (refine' walkR_plain (by kernel_rfl) rfl rfl (fun wx hC hL => ?_) ?_
         rotate_left
         · (have hlw := Nat.lt_of_lt_of_le hal (Below.size hC)
            have hlg := Nat.lt_of_lt_of_le hbl (Below.size hC)
            simp only [X0 wx hC, X1 wx hC, X2 wx hC, Y0 wx hC, Y1 wx hC, Y2 wx hC, hlw, hlg, go_sem]; first | done | (go_simp; exact ⟨rfl, rfl⟩))
         simp only [Act.put, List.setIfInBounds_toArray, List.set_cons_zero, List.set_cons_succ]))
    refine walkR_rel (by kernel_rfl) rfl rfl (of_decide_eq_true (by kernel_rfl)) (fun wx hC hL => ?_) (fun v hv => ?_)
    · go_simp
      exact H2.out wx hC
    obtain ⟨_, _, rfl⟩ := hv
    simp only [Act.put, List.setIfInBounds_toArray, List.set_cons_zero, List.set_cons_succ]
    repeat (first
      | (refine walkR_skip (by rfl) ?_
         simp only [Act.put, List.setIfInBounds_toArray, List.set_cons_zero, List.set_cons_succ])
      | (refine' walkR_plain (by kernel_rfl) rfl rfl (fun wx hC hL => ?_) ?_
         rotate_left
         · (have hlw := Nat.lt_of_lt_of_le hal (Below.size hC)
            have hlg := Nat.lt_of_lt_of_le hbl (Below.size hC)
            simp only [X0 wx hC, X1 wx hC, X2 wx hC, Y0 wx hC, Y1 wx hC, Y2 wx hC, hlw, hlg, go_sem]; first | done | (go_simp; exact ⟨rfl, rfl⟩))
         simp only [Act.put, List.setIfInBounds_toArray, List.set_cons_zero, List.set_cons_succ]))
    refine fun w5 hC5 _ => ?_
    have HB5 := hidIt (fin.out w5 hC5)
    clear hC5
    go_wp2_with fail
    go_ret
    exact ⟨rfl, HB5.out⟩
  case true =>
  by_cases hq1 : 100 < q.size
  case pos =>
    have hqd : decide ((100 : Int) < (q.size : Int)) = true := decide_eq_true (by omega)
    refine wp_region_rel (Ext w0) Grows (relTab [(24, isV (.bool true)), (28, isV (.bool true)), (43, isV (.int .i64 (x : Int))), (45, isV (.int .i64 (y : Int)))]) (by kernel_rfl) (by kernel_rfl) (by kernel_rfl) (stable_cons (isV_up _) (stable_cons (isV_up _) (stable_cons (isV_up _) (stable_cons (isV_up _) (stable_nil _))))) (Ext.start w0) ?_
    repeat (first
      | (refine walkR_skip (by rfl) ?_
         simp only [Act.put, List.setIfInBounds_toArray, List.set_cons_zero, List.set_cons_succ])
      | (refine' walkR_plain (by kernel_rfl) rfl rfl (fun wx hC hL => ?_) ?_
         rotate_left
         · (have hlw := Nat.lt_of_lt_of_le hal (Below.size hC)
            have hlg := Nat.lt_of_lt_of_le hbl (Below.size hC)
            simp only [X0 wx hC, X1 wx hC, X2 wx hC, Y0 wx hC, Y1 wx hC, Y2 wx hC, hlw, hlg, hqd, go_sem]; first | done | (go_simp; (try simp only [hqd]); exact ⟨rfl, rfl⟩))
         simp only [Act.put, List.setIfInBounds_toArray, List.set_cons_zero, List.set_cons_succ]))
    refine walkR_rel (by kernel_rfl) rfl rfl (of_decide_eq_true (by kernel_rfl)) (fun wx hC hL => ?_) (fun v hv => ?_)
    · go_simp
      exact H1.out wx hC
    obtain ⟨_, _, rfl⟩ := hv
    simp only [Act.put, List.setIfInBounds_toArray, List.set_cons_zero, List.set_cons_succ]
    repeat (first
      | (refine walkR_skip (by rfl) ?_
         simp only [Act.put, List.setIfInBounds_toArray, List.set_cons_zero, List.set_cons_succ])
      | (refine' walkR_plain (by kernel_rfl) rfl rfl (fun wx hC hL => ?_) ?_
         rotate_left
         · (have hlw := Nat.lt_of_lt_of_le hal (Below.size hC)
            have hlg := Nat.lt_of_lt_of_le hbl (Below.size hC)
            simp only [X0 wx hC, X1 wx hC, X2 wx hC, Y0 wx hC, Y1 wx hC, Y2 wx hC, hlw, hlg, hqd, go_sem]; first | done | (go_simp; (try simp only [hqd]); exact ⟨rfl, rfl⟩))
         simp only [Act.put, List.setIfInBounds_toArray, List.set_cons_zero, List.set_cons_succ]))
    refine walkR_rel (by kernel_rfl) rfl rfl (of_decide_eq_true (by kernel_rfl)) (fun wx hC hL => ?_) (fun v hv => ?_)
    · go_simp
      exact H2.out wx hC
    obtain ⟨_, _, rfl⟩ := hv
    simp only [Act.put, List.setIfInBounds_toArray, List.set_cons_zero, List.set_cons_succ]
    repeat (first
      | (refine walkR_skip (by rfl) ?_
         simp only [Act.put, List.setIfInBounds_toArray, List.set_cons_zero, List.set_cons_succ])
      | (refine' walkR_plain (by kernel_rfl) rfl rfl (fun wx hC hL => ?_) ?_
         rotate_left
         · (have hlw := Nat.lt_of_lt_of_le hal (Below.size hC)
            have hlg := Nat.lt_of_lt_of_le hbl (Below.size hC)
            simp only [X0 wx hC, X1 wx hC, X2 wx hC, Y0 wx hC, Y1 wx hC, Y2 wx hC, hlw, hlg, hqd, go_sem]; first | done | (go_simp; (try simp only [hqd]); exact ⟨rfl, rfl⟩))
         simp only [Act.put, List.setIfInBounds_toArray, List.set_cons_zero, List.set_cons_succ]))
    refine fun w5 hC5 _ => ?_
    have HB5 := hidIt (fin.out w5 hC5)
    clear hC5
    go_wp2_with fail
    go_ret
    exact ⟨rfl, HB5.out⟩
  case neg =>
  have hqd : decide ((100 : Int) < (q.size : Int)) = false := decide_eq_false (by omega)
  by_cases hy1 : 20 < ly.length
  case pos =>
    have hyd : decide ((20 : Int) < (ly.length : Int)) = true := decide_eq_true (by omega)
    refine wp_region_rel (Ext w0) Grows (relTab [(24, isV (.bool true)), (28, isV (.bool true)), (43, isV (.int .i64 (x : Int))), (45, isV (.int .i64 (y : Int)))]) (by kernel_rfl) (by kernel_rfl) (by kernel_rfl) (stable_cons (isV_up _) (stable_cons (isV_up _) (stable_cons (isV_up _) (stable_cons (isV_up _) (stable_nil _))))) (Ext.start w0) ?_
    repeat (first
      | (refine walkR_skip (by rfl) ?_
         simp only [Act.put, List.setIfInBounds_toArray, List.set_cons_zero, List.set_cons_succ])
      | (refine' walkR_plain (by kernel_rfl) rfl rfl (fun wx hC hL => ?_) ?_
         rotate_left
         · (have hlw := Nat.lt_of_lt_of_le hal (Below.size hC)
            have hlg := Nat.lt_of_lt_of_le hbl (Below.size hC)
            simp only [X0 wx hC, X1 wx hC, X2 wx hC, Y0 wx hC, Y1 wx hC, Y2 wx hC, hlw, hlg, hqd, hyd, go_sem]; first | done | (go_simp; (try simp only [hqd, hyd]); exact ⟨rfl, rfl⟩))
         simp only [Act.put, List.setIfInBounds_toArray, List.set_cons_zero, List.set_cons_succ]))
    refine walkR_rel (by kernel_rfl) rfl rfl (of_decide_eq_true (by kernel_rfl)) (fun wx hC hL => ?_) (fun v hv => ?_)
    · go_simp
      exact H1.out wx hC
    obtain ⟨_, _, rfl⟩ := hv
    simp only [Act.put, List.setIfInBounds_toArray, List.set_cons_zero, List.set_cons_succ]
    repeat (first
      | (refine walkR_skip (by rfl) ?_
         simp only [Act.put, List.setIfInBounds_toArray, List.set_cons_zero, List.set_cons_succ])
      | (refine' walkR_plain (by kernel_rfl) rfl rfl (fun wx hC hL => ?_) ?_
         rotate_left
         · (have hlw := Nat.lt_of_lt_of_le hal (Below.size hC)
            have hlg := Nat.lt_of_lt_of_le hbl (Below.size hC)
            simp only [X0 wx hC, X1 wx hC, X2 wx hC, Y0 wx hC, Y1 wx hC, Y2 wx hC, hlw, hlg, hqd, hyd, go_sem]; first | done | (go_simp; (try simp only [hqd, hyd]); exact ⟨rfl, rfl⟩))
         simp only [Act.put, List.setIfInBounds_toArray, List.set_cons_zero, List.set_cons_succ]))
    refine walkR_rel (by kernel_rfl) rfl rfl (of_decide_eq_true (by kernel_rfl)) (fun wx hC hL => ?_) (fun v hv => ?_)
    · go_simp
      exact H2.out wx hC
    obtain ⟨_, _, rfl⟩ := hv
    simp only [Act.put, List.setIfInBounds_toArray, List.set_cons_zero, List.set_cons_succ]
    repeat (first
      | (refine walkR_skip (by rfl) ?_
         simp only [Act.put, List.setIfInBounds_toArray, List.set_cons_zero, List.set_cons_succ])
      | (refine' walkR_plain (by kernel_rfl) rfl rfl (fun wx hC hL => ?_) ?_
         rotate_left
         · (have hlw := Nat.lt_of_lt_of_le hal (Below.size hC)
            have hlg := Nat.lt_of_lt_of_le hbl (Below.size hC)
            simp only [X0 wx hC, X1 wx hC, X2 wx hC, Y0 wx hC, Y1 wx hC, Y2 wx hC, hlw, hlg, hqd, hyd, go_sem]; first | done | (go_simp; (try simp only [hqd, hyd]); exact ⟨rfl, rfl⟩))
         simp only [Act.put, List.setIfInBounds_toArray, List.set_cons_zero, List.set_cons_succ]))
    refine fun w5 hC5 _ => ?_
    have HB5 := hidIt (fin.out w5 hC5)
    clear hC5
    go_wp2_with fail
    go_ret
    exact ⟨rfl, HB5.out⟩
  case neg =>
  have hyd : decide ((20 : Int) < (ly.length : Int)) = false := decide_eq_false (by omega)
  by_cases hx1 : 2000 < x * y
  case pos =>
    have hxd : decide ((2000 : Int) < (x : Int) * (y : Int)) = true := decide_eq_true (by rw [← Int.natCast_mul]; omega)
    refine wp_region_rel (Ext w0) Grows (relTab [(24, isV (.bool true)), (28, isV (.bool true)), (43, isV (.int .i64 (x : Int))), (45, isV (.int .i64 (y : Int)))]) (by kernel_rfl) (by kernel_rfl) (by kernel_rfl) (stable_cons (isV_up _) (stable_cons (isV_up _) (stable_cons (isV_up _) (stable_cons (isV_up _) (stable_nil _))))) (Ext.start w0) ?_
    repeat (first
      | (refine walkR_skip (by rfl) ?_
         simp only [Act.put, List.setIfInBounds_toArray, List.set_cons_zero, List.set_cons_succ])
      | (refine' walkR_plain (by kernel_rfl) rfl rfl (fun wx hC hL => ?_) ?_
         rotate_left
         · (have hlw := Nat.lt_of_lt_of_le hal (Below.size hC)
            have hlg := Nat.lt_of_lt_of_le hbl (Below.size hC)
            simp only [X0 wx hC, X1 wx hC, X2 wx hC, Y0 wx hC, Y1 wx hC, Y2 wx hC, hlw, hlg, hqd, hyd, hmul, hxd, go_sem]; first | done | (go_simp; (try simp only [hqd, hyd, hmul, hxd]); exact ⟨rfl, rfl⟩))
         simp only [Act.put, List.setIfInBounds_toArray, List.set_cons_zero, List.set_cons_succ]))
    refine walkR_rel (by kernel_rfl) rfl rfl (of_decide_eq_true (by kernel_rfl)) (fun wx hC hL => ?_) (fun v hv => ?_)
    · go_simp
      exact H1.out wx hC
    obtain ⟨_, _, rfl⟩ := hv
    simp only [Act.put, List.setIfInBounds_toArray, List.set_cons_zero, List.set_cons_succ]
    repeat (first
      | (refine walkR_skip (by rfl) ?_
         simp only [Act.put, List.setIfInBounds_toArray, List.set_cons_zero, List.set_cons_succ])
      | (refine' walkR_plain (by kernel_rfl) rfl rfl (fun wx hC hL => ?_) ?_
         rotate_left
         · (have hlw := Nat.lt_of_lt_of_le hal (Below.size hC)
            have hlg := Nat.lt_of_lt_of_le hbl (Below.size hC)
            simp only [X0 wx hC, X1 wx hC, X2 wx hC, Y0 wx hC, Y1 wx hC, Y2 wx hC, hlw, hlg, hqd, hyd, hmul, hxd, go_sem]; first | done | (go_simp; (try simp only [hqd, hyd, hmul, hxd]); exact ⟨rfl, rfl⟩))
         simp only [Act.put, List.setIfInBounds_toArray, List.set_cons_zero, List.set_cons_succ]))
    refine walkR_rel (by kernel_rfl) rfl rfl (of_decide_eq_true (by kernel_rfl)) (fun wx hC hL => ?_) (fun v hv => ?_)
    · go_simp
      exact H2.out wx hC
    obtain ⟨_, _, rfl⟩ := hv
    simp only [Act.put, List.setIfInBounds_toArray, List.set_cons_zero, List.set_cons_succ]
    repeat (first
      | (refine walkR_skip (by rfl) ?_
         simp only [Act.put, List.setIfInBounds_toArray, List.set_cons_zero, List.set_cons_succ])
      | (refine' walkR_plain (by kernel_rfl) rfl rfl (fun wx hC hL => ?_) ?_
         rotate_left
         · (have hlw := Nat.lt_of_lt_of_le hal (Below.size hC)
            have hlg := Nat.lt_of_lt_of_le hbl (Below.size hC)
            simp only [X0 wx hC, X1 wx hC, X2 wx hC, Y0 wx hC, Y1 wx hC, Y2 wx hC, hlw, hlg, hqd, hyd, hmul, hxd, go_sem]; first | done | (go_simp; (try simp only [hqd, hyd, hmul, hxd]); exact ⟨rfl, rfl⟩))
         simp only [Act.put, List.setIfInBounds_toArray, List.set_cons_zero, List.set_cons_succ]))
    refine walkR_rel (by kernel_rfl) rfl rfl (of_decide_eq_true (by kernel_rfl)) (fun wx hC hL => ?_) (fun v hv => ?_)
    · go_simp
      exact H3.out wx hC
    obtain ⟨_, _, rfl⟩ := hv
    simp only [Act.put, List.setIfInBounds_toArray, List.set_cons_zero, List.set_cons_succ]
    repeat (first
      | (refine walkR_skip (by rfl) ?_
         simp only [Act.put, List.setIfInBounds_toArray, List.set_cons_zero, List.set_cons_succ])
      | (refine' walkR_plain (by kernel_rfl) rfl rfl (fun wx hC hL => ?_) ?_
         rotate_left
         · (have hlw := Nat.lt_of_lt_of_le hal (Below.size hC)
            have hlg := Nat.lt_of_lt_of_le hbl (Below.size hC)
            simp only [X0 wx hC, X1 wx hC, X2 wx hC, Y0 wx hC, Y1 wx hC, Y2 wx hC, hlw, hlg, hqd, hyd, hmul, hxd, go_sem]; first | done | (go_simp; (try simp only [hqd, hyd, hmul, hxd]); exact ⟨rfl, rfl⟩))
         simp only [Act.put, List.setIfInBounds_toArray, List.set_cons_zero, List.set_cons_succ]))
    refine walkR_rel (by kernel_rfl) rfl rfl (of_decide_eq_true (by kernel_rfl)) (fun wx hC hL => ?_) (fun v hv => ?_)
    · go_simp
      exact H4.out wx hC
    obtain ⟨_, _, rfl⟩ := hv
    simp only [Act.put, List.setIfInBounds_toArray, List.set_cons_zero, List.set_cons_succ]
    repeat (first
      | (refine walkR_skip (by rfl) ?_
         simp only [Act.put, List.setIfInBounds_toArray, List.set_cons_zero, List.set_cons_succ])
      | (refine' walkR_plain (by kernel_rfl) rfl rfl (fun wx hC hL => ?_) ?_
         rotate_left
         · (have hlw := Nat.lt_of_lt_of_le hal (Below.size hC)
            have hlg := Nat.lt_of_lt_of_le hbl (Below.size hC)
            simp only [X0 wx hC, X1 wx hC, X2 wx hC, Y0 wx hC, Y1 wx hC, Y2 wx hC, hlw, hlg, hqd, hyd, hmul, hxd, go_sem]; first | done | (go_simp; (try simp only [hqd, hyd, hmul, hxd]); exact ⟨rfl, rfl⟩))
         simp only [Act.put, List.setIfInBounds_toArray, List.set_cons_zero, List.set_cons_succ]))
    refine fun w5 hC5 _ => ?_
    have HB5 := hidIt (fin.out w5 hC5)
    clear hC5
    go_wp2_with fail
    go_ret
    exact ⟨rfl, HB5.out⟩
  case neg =>
  have hxd : decide ((2000 : Int) < (x : Int) * (y : Int)) = false := decide_eq_false (by rw [← Int.natCast_mul]; omega)
  refine wp_region_rel (Ext w0) Grows (relTab [(24, isV (.bool true)), (28, isV (.bool true)), (43, isV (.int .i64 (x : Int))), (45, isV (.int .i64 (y : Int)))]) (by kernel_rfl) (by kernel_rfl) (by kernel_rfl) (stable_cons (isV_up _) (stable_cons (isV_up _) (stable_cons (isV_up _) (stable_cons (isV_up _) (stable_nil _))))) (Ext.start w0) ?_
  repeat (first
    | (refine walkR_skip (by rfl) ?_
       simp only [Act.put, List.setIfInBounds_toArray, List.set_cons_zero, List.set_cons_succ])
    | (refine' walkR_plain (by kernel_rfl) rfl rfl (fun wx hC hL => ?_) ?_
       rotate_left
       · (have hlw := Nat.lt_of_lt_of_le hal (Below.size hC)
          have hlg := Nat.lt_of_lt_of_le hbl (Below.size hC)
          simp only [X0 wx hC, X1 wx hC, X2 wx hC, Y0 wx hC, Y1 wx hC, Y2 wx hC, hlw, hlg, hqd, hyd, hmul, hxd, go_sem]; first | done | (go_simp; (try simp only [hqd, hyd, hmul, hxd]); exact ⟨rfl, rfl⟩))
       simp only [Act.put, List.setIfInBounds_toArray, List.set_cons_zero, List.set_cons_succ]))
  refine walkR_rel (by kernel_rfl) rfl rfl (of_decide_eq_true (by kernel_rfl)) (fun wx hC hL => ?_) (fun v hv => ?_)
  · go_simp
    exact H1.out wx hC
  obtain ⟨_, _, rfl⟩ := hv
  simp only [Act.put, List.setIfInBounds_toArray, List.set_cons_zero, List.set_cons_succ]
  repeat (first
    | (refine walkR_skip (by rfl) ?_
       simp only [Act.put, List.setIfInBounds_toArray, List.set_cons_zero, List.set_cons_succ])
    | (refine' walkR_plain (by kernel_rfl) rfl rfl (fun wx hC hL => ?_) ?_
       rotate_left
       · (have hlw := Nat.lt_of_lt_of_le hal (Below.size hC)
          have hlg := Nat.lt_of_lt_of_le hbl (Below.size hC)
          simp only [X0 wx hC, X1 wx hC, X2 wx hC, Y0 wx hC, Y1 wx hC, Y2 wx hC, hlw, hlg, hqd, hyd, hmul, hxd, go_sem]; first | done | (go_simp; (try simp only [hqd, hyd, hmul, hxd]); exact ⟨rfl, rfl⟩))
       simp only [Act.put, List.setIfInBounds_toArray, List.set_cons_zero, List.set_cons_succ]))
  refine walkR_rel (by kernel_rfl) rfl rfl (of_decide_eq_true (by kernel_rfl)) (fun wx hC hL => ?_) (fun v hv => ?_)
  · go_simp
    exact H2.out wx hC
  obtain ⟨_, _, rfl⟩ := hv
  simp only [Act.put, List.setIfInBounds_toArray, List.set_cons_zero, List.set_cons_succ]
  repeat (first
    | (refine walkR_skip (by rfl) ?_
       simp only [Act.put, List.setIfInBounds_toArray, List.set_cons_zero, List.set_cons_succ])
    | (refine' walkR_plain (by kernel_rfl) rfl rfl (fun wx hC hL => ?_) ?_
       rotate_left
       · (have hlw := Nat.lt_of_lt_of_le hal (Below.size hC)
          have hlg := Nat.lt_of_lt_of_le hbl (Below.size hC)
          simp only [X0 wx hC, X1 wx hC, X2 wx hC, Y0 wx hC, Y1 wx hC, Y2 wx hC, hlw, hlg, hqd, hyd, hmul, hxd, go_sem]; first | done | (go_simp; (try simp only [hqd, hyd, hmul, hxd]); exact ⟨rfl, rfl⟩))
       simp only [Act.put, List.setIfInBounds_toArray, List.set_cons_zero, List.set_cons_succ]))
  refine walkR_rel (by kernel_rfl) rfl rfl (of_decide_eq_true (by kernel_rfl)) (fun wx hC hL => ?_) (fun v hv => ?_)
  · go_simp
    exact H3.out wx hC
  obtain ⟨_, _, rfl⟩ := hv
  simp only [Act.put, List.setIfInBounds_toArray, List.set_cons_zero, List.set_cons_succ]
  repeat (first
    | (refine walkR_skip (by rfl) ?_
       simp only [Act.put, List.setIfInBounds_toArray, List.set_cons_zero, List.set_cons_succ])
    | (refine' walkR_plain (by kernel_rfl) rfl rfl (fun wx hC hL => ?_) ?_
       rotate_left
       · (have hlw := Nat.lt_of_lt_of_le hal (Below.size hC)
          have hlg := Nat.lt_of_lt_of_le hbl (Below.size hC)
          simp only [X0 wx hC, X1 wx hC, X2 wx hC, Y0 wx hC, Y1 wx hC, Y2 wx hC, hlw, hlg, hqd, hyd, hmul, hxd, go_sem]; first | done | (go_simp; (try simp only [hqd, hyd, hmul, hxd]); exact ⟨rfl, rfl⟩))
       simp only [Act.put, List.setIfInBounds_toArray, List.set_cons_zero, List.set_cons_succ]))
  refine walkR_rel (by kernel_rfl) rfl rfl (of_decide_eq_true (by kernel_rfl)) (fun wx hC hL => ?_) (fun v hv => ?_)
  · go_simp
    exact H4.out wx hC
  obtain ⟨_, _, rfl⟩ := hv
  simp only [Act.put, List.setIfInBounds_toArray, List.set_cons_zero, List.set_cons_succ]
  repeat (first
    | (refine walkR_skip (by rfl) ?_
       simp only [Act.put, List.setIfInBounds_toArray, List.set_cons_zero, List.set_cons_succ])
    | (refine' walkR_plain (by kernel_rfl) rfl rfl (fun wx hC hL => ?_) ?_
       rotate_left
       · (have hlw := Nat.lt_of_lt_of_le hal (Below.size hC)
          have hlg := Nat.lt_of_lt_of_le hbl (Below.size hC)
          simp only [X0 wx hC, X1 wx hC, X2 wx hC, Y0 wx hC, Y1 wx hC, Y2 wx hC, hlw, hlg, hqd, hyd, hmul, hxd, go_sem]; first | done | (go_simp; (try simp only [hqd, hyd, hmul, hxd]); exact ⟨rfl, rfl⟩))
       simp only [Act.put, List.setIfInBounds_toArray, List.set_cons_zero, List.set_cons_succ]))
  refine fun w1 hC1 _ => ?_
  have HB1 := hidIt (fin.out w1 hC1)
  have HFA1 := hidIt (HFA0.out.go hC1)
  have HFB1 := hidIt (HFB0.out.go hC1)
  have HKA1 := hidIt (blk_kept HKA0.out hC1)
  have HKB1 := hidIt (blk_kept HKB0.out hC1)
  have HZ1 := hidIt (HZ0.out.kept (only_of_below hC1 none) (fun g e => by cases e))
  have HY1 := hidIt (HY0.out.go hC1)
  have HN0 : Hid (t0.nodes ≤ 800) := HS0.out rfl
  have HN1 : Hid (t1.nodes ≤ 800) := HS1.out rfl
  have HLY : Hid (ly.length ≤ 20) := Nat.le_of_not_lt hy1
  clear hC1 X0 X1 X2 Y0 Y1 Y2 H1 H2 H3 H4 fin HFA0 HFB0 HKA0 HKB0 HZ0 HY0 HB0 hal hbl hmul HS0 HS1
  clear hqd hyd hxd hq1 hy1 hx1
  go_wp2_with fail
  refine (new_any v zs w.heap.size w1 HZ1.out HB1.out.size).mono ?_
  rintro e w2 ⟨zs1, rfl, hs2, o2, hw2⟩
  have HS2 := hidIt hs2
  have hb2 : Below w1.heap.size w1 w2 := by rw [hw2]; exact Grows.alloc _ _
  have HKA2 := hidIt (blk_kept HKA1.out hb2)
  have HKB2 := hidIt (blk_kept HKB1.out hb2)
  have HB2 := hidIt (HB1.out.trans (Below.mono hb2 HB1.out.size))
  have HFA2 : Hid (FormIn w2 (fun i => i ≠ w1.heap.size) (.agg #[.int .i64 t0.op, .string t0.name, .slice a0 t0.args.length cap0]) t0) := FormIn.go (FormIn.mono HFA1.out fun i hi _ => by omega) hb2
  have HFB2 : Hid (FormIn w2 (fun i => i ≠ w1.heap.size) (.agg #[.int .i64 t1.op, .string t1.name, .slice a1 t1.args.length cap1]) t1) := FormIn.go (FormIn.mono HFB1.out fun i hi _ => by omega) hb2
  have HY2 : Hid (StrsIn w2 (fun i => i ≠ w1.heap.size) ya ly) := (HY1.out.go hb2).mono fun i _ hi => by have := HB1.out.size; omega
  have hla := lt_of_block HKA1.out
  have hlb := lt_of_block HKB1.out
  have hpa : w.heap.size ≠ w1.heap.size := by omega
  have hpb1 : pb ≠ w1.heap.size := by omega
  have hbw2 : w.heap.size ≤ w1.heap.size := by omega
  clear hs2 hw2 hb2 HFA1 HFB1 HKA1 HKB1 HZ1 HB1 HY1 hla hlb
  generalize w1.heap.size = b at *
  go_wp2_with fail
  refine (sform_any 4 (by omega) (by omega) 3 (by omega) _ _ zs1 0 w2 HS2.out).mono ?_
  rintro e w3 ⟨f, fo, fs, fa, fm, fc, q3, rfl, hf1, hfd, hf3, hs3, hg3⟩
  have HNF : Hid (f.nodes ≤ 121) := Nat.le_trans (gen_nodes f 3 hf1 hfd) (by decide)
  have HMF := hidIt (nmLe_all (N := 12) hf1 (by omega))
  have hgr : w3.grownBy (w3.alloc (.cells #[.int .i64 fo, .string fs, .slice fa fm fc] 24)) (some b) := only_alloc (only_refl _ _) _
  have hg4 := only_trans hg3 hgr
  have HS4 := hidIt (hs3.alloc (.cells #[.int .i64 fo, .string fs, .slice fa fm fc] 24))
  have HKA4 := hidIt ((hg4.block _ (lt_of_block HKA2.out) (fun e => hpa (by injection e))).trans HKA2.out)
  have HKB4 := hidIt ((hg4.block _ (lt_of_block HKB2.out) (fun e => hpb1 (by injection e))).trans HKB2.out)
  have HKC4 := hidIt (heap_alloc_new w3 (.cells #[.int .i64 fo, .string fs, .slice fa fm fc] 24))
  have HB4 := hidIt (only_trans (only_of_below HB2.out (some b)) hg4)
  have HFA4 := hidIt (HFA2.out.keptB hg4)
  have HFB4 := hidIt (HFB2.out.keptB hg4)
  have HY4 := hidIt (HY2.out.kept fun i hi hl => hg4.block i hl (fun e => hi (by injection e)))
  have hbl2 := HS2.out.lt
  have HFC4 : Hid (FormIn (w3.alloc (.cells #[.int .i64 fo, .string fs, .slice fa fm fc] 24)) (fun i => i ≠ b) (.agg #[.int .i64 fo, .string fs, .slice fa fm fc]) f) := FormIn.keptB (hf3.mono fun i _ hi => by omega) hgr
  have hpc : w3.heap.size ≠ b := by have := hs3.lt; omega
  clear hf1 hfd hf3 hs3 hg3 hgr hg4 HS2 HKA2 HKB2 HB2 HFA2 HFB2 HY2 hbl2
  go_wp2_with fail
  generalize hWa : (w3.alloc (.cells #[.int .i64 fo, .string fs, .slice fa fm fc] 24)) = w4 at *
  clear hWa
  generalize w3.heap.size = pc at *
  obtain ⟨A0, A1, A2⟩ := cell_of3 HKA4.out
  obtain ⟨B0, B1, B2⟩ := cell_of3 HKB4.out
  obtain ⟨C0, C1, C2⟩ := cell_of3 HKC4.out
  have hal := lt_of_block HKA4.out
  have hbl := lt_of_block HKB4.out
  have hcl := lt_of_block HKC4.out
  have hbl4 := HS4.out.lt
  have X0 : ∀ wx, (w4.grownBy wx (some b) ∧ ∃ q, SrcAt wx w.heap.size b zs1 q) → wx.cell? ⟨w.heap.size, 0, none⟩ = some (.int .i64 t0.op) := fun wx hC => hC.1.cell A0 (fun e => hpa (by injection e))
  have X1 : ∀ wx, (w4.grownBy wx (some b) ∧ ∃ q, SrcAt wx w.heap.size b zs1 q) → wx.cell? ⟨w.heap.size, 1, none⟩ = some (.string t0.name) := fun wx hC => hC.1.cell A1 (fun e => hpa (by injection e))
  have X2 : ∀ wx, (w4.grownBy wx (some b) ∧ ∃ q, SrcAt wx w.heap.size b zs1 q) → wx.cell? ⟨w.heap.size, 2, none⟩ = some (.slice a0 t0.args.length cap0) := fun wx hC => hC.1.cell A2 (fun e => hpa (by injection e))
  have Y0 : ∀ wx, (w4.grownBy wx (some b) ∧ ∃ q, SrcAt wx w.heap.size b zs1 q) → wx.cell? ⟨pb, 0, none⟩ = some (.int .i64 t1.op) := fun wx hC => hC.1.cell B0 (fun e => hpb1 (by injection e))
  have Y1 : ∀ wx, (w4.grownBy wx (some b) ∧ ∃ q, SrcAt wx w.heap.size b zs1 q) → wx.cell? ⟨pb, 1, none⟩ = some (.string t1.name) := fun wx hC => hC.1.cell B1 (fun e => hpb1 (by injection e))
  have Y2 : ∀ wx, (w4.grownBy wx (some b) ∧ ∃ q, SrcAt wx w.heap.size b zs1 q) → wx.cell? ⟨pb, 2, none⟩ = some (.slice a1 t1.args.length cap1) := fun wx hC => hC.1.cell B2 (fun e => hpb1 (by injection e))
  have Z0 : ∀ wx, (w4.grownBy wx (some b) ∧ ∃ q, SrcAt wx w.heap.size b zs1 q) → wx.cell? ⟨pc, 0, none⟩ = some (.int .i64 fo) := fun wx hC => hC.1.cell C0 (fun e => hpc (by injection e))
  have Z1 : ∀ wx, (w4.grownBy wx (some b) ∧ ∃ q, SrcAt wx w.heap.size b zs1 q) → wx.cell? ⟨pc, 1, none⟩ = some (.string fs) := fun wx hC => hC.1.cell C1 (fun e => hpc (by injection e))
  have Z2 : ∀ wx, (w4.grownBy wx (some b) ∧ ∃ q, SrcAt wx w.heap.size b zs1 q) → wx.cell? ⟨pc, 2, none⟩ = some (.slice fa fm fc) := fun wx hC => hC.1.cell C2 (fun e => hpc (by injection e))
  clear A0 A1 A2 B0 B1 B2 C0 C1 C2
  haveI : Nonempty (In (Ext w4)) := Ext.nonempty w4
  refine wp_region_rel (fun wx => w4.grownBy wx (some b) ∧ ∃ q, SrcAt wx w.heap.size b zs1 q) (fun x y => x.grownBy y (some b)) (relTab [(58, isF b 141 13), (59, isRowFn 4 b)]) (by kernel_rfl) (by kernel_rfl) (by kernel_rfl) (fun s r hs v x y hx hy hg hr => ?_) ⟨only_of_below (Below.refl _ _).drew _, _, HS4.out.grow (only_of_below (Below.refl _ _).drew none)⟩ ?_
  · unfold relTab at hs
    split at hs
    · injection hs with hs
      subst hs
      exact isF_kept hg hr
    unfold relTab at hs
    split at hs
    · injection hs with hs
      subst hs
      exact isRowFn_kept hg hr
    · cases hs
  repeat (first
    | (refine walkR_skip (by rfl) ?_
       simp only [Act.put, List.setIfInBounds_toArray, List.set_cons_zero, List.set_cons_succ])
    | (refine' walkR_plain (by kernel_rfl) rfl rfl (fun wx hC hL => ?_) ?_
       rotate_left
       · (have hlw := Nat.lt_of_lt_of_le hal hC.1.size
          have hlg := Nat.lt_of_lt_of_le hbl hC.1.size
          have hlh := Nat.lt_of_lt_of_le hcl hC.1.size
          simp only [X0 wx hC, X1 wx hC, X2 wx hC, Y0 wx hC, Y1 wx hC, Y2 wx hC, Z0 wx hC, Z1 wx hC, Z2 wx hC, hlw, hlg, hlh, go_sem]; first | done | (go_simp; exact ⟨rfl, rfl⟩))
       simp only [Act.put, List.setIfInBounds_toArray, List.set_cons_zero, List.set_cons_succ]))
  refine walkR_rel (by kernel_rfl) rfl rfl (of_decide_eq_true (by kernel_rfl)) (fun wx hC hL => ?_) (fun v hv => ?_)
  · go_simp
    exact spoilt_rel (by omega) (by omega) (by omega) hC (M := 121) (N := 12) ⟨f, _, _, _, _, _, rfl, HNF.out, HMF.out, HFC4.out.keptB hC.1⟩
  obtain ⟨_, _, T58, o58, s58, a58, m58, c58, rfl, -⟩ := hv
  simp only [Act.put, List.setIfInBounds_toArray, List.set_cons_zero, List.set_cons_succ]
  refine walkR_rel (by kernel_rfl) rfl rfl (of_decide_eq_true (by kernel_rfl)) (fun wx hC hL => ?_) (fun v hv => ?_)
  · obtain ⟨U2, _, _, _, _, _, e2, n2, -, f2⟩ : isF b 141 13 (.agg #[.int .i64 o58, .string s58, .slice a58 m58 c58]) wx := hL.get 58 (by simp [more]) (by kernel_rfl) rfl rfl
    simp at e2
    obtain ⟨rfl, rfl, rfl, rfl, rfl⟩ := e2
    have h0 := HN0.out
    have h1 := HN1.out
    have h2 := HNF.out
    have hr := row_four (by omega) (by omega) (by omega) (by omega) (HFA4.out.keptB hC.1) (HFB4.out.keptB hC.1) (HFC4.out.keptB hC.1) f2 (Nat.lt_of_lt_of_le hbl4 hC.1.size)
    go_simp
    exact ⟨⟨only_alloc hC.1 _, hC.2.imp fun _ h => h.alloc _⟩, only_alloc (only_refl _ _) _, hr⟩
  obtain ⟨_, _, gb, rfl, hgb, -, -⟩ := hv
  simp only [Act.put, List.setIfInBounds_toArray, List.set_cons_zero, List.set_cons_succ]
  repeat (first
    | (refine walkR_skip (by rfl) ?_
       simp only [Act.put, List.setIfInBounds_toArray, List.set_cons_zero, List.set_cons_succ])
    | (refine' walkR_plain (by kernel_rfl) rfl rfl (fun wx hC hL => ?_) ?_
       rotate_left
       · (have hlw := Nat.lt_of_lt_of_le hal hC.1.size
          have hlg := Nat.lt_of_lt_of_le hbl hC.1.size
          have hlh := Nat.lt_of_lt_of_le hcl hC.1.size
          simp only [X0 wx hC, X1 wx hC, X2 wx hC, Y0 wx hC, Y1 wx hC, Y2 wx hC, Z0 wx hC, Z1 wx hC, Z2 wx hC, hlw, hlg, hlh, go_sem]; first | done | (go_simp; exact ⟨rfl, rfl⟩))
       simp only [Act.put, List.setIfInBounds_toArray, List.set_cons_zero, List.set_cons_succ]))
  refine fun w6 hC6 hK => ?_
  have h59 : isRowFn 4 b (.slice (some ⟨gb, 0, none⟩) 4 4) w6 := hK 59 (by simp [more]) _ rfl
  obtain ⟨g', e, -, hg6, hrow⟩ := h59
  injection e with e
  injection e with e
  injection e with e
  subst e
  have HRW := hidIt hrow
  have HB6 := hidIt (only_trans HB4.out hC6.1)
  obtain ⟨q6, hs6⟩ := hC6.2
  have HS6 := hidIt hs6
  have HY6 := hidIt (HY4.out.kept fun i hi hl => hC6.1.block i hl (fun e => hi (by injection e)))
  clear hK hC6 hrow hs6 X0 X1 X2 Y0 Y1 Y2 Z0 Z1 Z2 HFA4 HFB4 HFC4 HKA4 HKB4 HKC4 HB4 HS4 HY4 hal hbl hcl hbl4 HNF HMF HN0 HN1
  go_wp2_with fail
  go_loopw [62] (fun i wr => ∃ k q : Nat, k ≤ 4 ∧ i = .int .i64 k ∧ Hid (w6.grownBy wr (some b)) ∧ Hid (SrcAt wr w.heap.size b zs1 q)) (fun i _ => 4 - (intOf i).toNat)
  case atStart => exact ⟨0, q6, by omega, rfl, only_refl _ _, HS6.out⟩
  case round =>
    clear HS6
    obtain ⟨k, q6, hk, rfl, hgr, hsrc⟩ := hrel
    have HGW := hidIt (only_trans HB6.out hgr.out)
    by_cases hlt : k < 4
    · obtain ⟨T, to, ts, ta, tm, tc, c0, c1, c2, hTn, hf⟩ := (HRW.out.kept hg6 hgb hgr.out) k hlt
      have hlt0 : (k : Int) < 4 := by omega
      have hk0 : (0 : Int) ≤ (k : Int) := by omega
      have hg7 : Below wr.heap.size wr (wr.alloc (.cells #[.int .i64 to, .string ts, .slice ta tm tc] 24)) := Grows.alloc _ _
      have HT7 := hidIt (hf.go hg7)
      have HK7 := hidIt (heap_alloc_new wr (.cells #[.int .i64 to, .string ts, .slice ta tm tc] 24))
      have HG7 := hidIt (only_trans hgr.out (only_of_below hg7 (some b)))
      have HS7 := hidIt (hsrc.out.grow (only_of_below hg7 none))
      have HY7 := hidIt (HY6.out.kept fun i hi hl => HG7.out.block i hl (fun e => hi (by injection e)))
      have HTN : Hid (T.nodes ≤ 1000000) := by show _ ≤ _; omega
      have HAL : Hid ((atomsT T).length ≤ 1000) := Nat.le_trans (atomsT_len T) hTn
      have hpt : wr.heap.size ≠ b := by have := hsrc.out.lt; omega
      clear hf hg7 hTn hgr hsrc HGW
      go_wp2_with fail
      clear c0 c1 c2
      generalize hWa : (wr.alloc (.cells #[.int .i64 to, .string ts, .slice ta tm tc] 24)) = w7 at *
      clear hWa
      generalize wr.heap.size = pt at *
      obtain ⟨t0', t1', t2'⟩ := cell_of3 HK7.out
      have htl := lt_of_block HK7.out
      have T0 : ∀ wx, Ext w7 wx → wx.cell? ⟨pt, 0, none⟩ = some (.int .i64 to) := fun wx hC => Ext.cell t0' ⟨wx, hC⟩
      have T1 : ∀ wx, Ext w7 wx → wx.cell? ⟨pt, 1, none⟩ = some (.string ts) := fun wx hC => Ext.cell t1' ⟨wx, hC⟩
      have T2 : ∀ wx, Ext w7 wx → wx.cell? ⟨pt, 2, none⟩ = some (.slice ta tm tc) := fun wx hC => Ext.cell t2' ⟨wx, hC⟩
      have HAT := hidIt (fun (W : World) h => atoms_any T HTN.out (.agg #[.int .i64 to, .string ts, .slice ta tm tc]) W h)
      have HQA := hidIt (fun (W : World) h => qatoms_any T (.agg #[.int .i64 to, .string ts, .slice ta tm tc]) W HTN.out h)
      generalize atomsT T = al at *
      clear t0' t1' t2'
      haveI : Nonempty (In (Ext w7)) := Ext.nonempty w7
      refine wp_region_rel (Ext w7) Grows (relTab [(67, isSV al), (69, isSV al)]) (by kernel_rfl) (by kernel_rfl) (by kernel_rfl) (stable_cons (isSV_up _) (stable_cons (isSV_up _) (stable_nil _))) (Ext.start w7) ?_
      repeat (first
        | (refine walkR_skip (by rfl) ?_
           simp only [Act.put, List.setIfInBounds_toArray, List.set_cons_zero, List.set_cons_succ])
        | (refine' walkR_plain (by kernel_rfl) rfl rfl (fun wx hC hL => ?_) ?_
           rotate_left
           · (have hlt := Nat.lt_of_lt_of_le htl (Below.size hC)
              simp only [T0 wx hC, T1 wx hC, T2 wx hC, hlt, go_sem]; first | done | (go_simp; (try simp only [bne_self_eq_false, Bool.not_true]); exact ⟨rfl, rfl⟩))
           simp only [Act.put, List.setIfInBounds_toArray, List.set_cons_zero, List.set_cons_succ]))
      refine walkR_rel (by kernel_rfl) rfl rfl (of_decide_eq_true (by kernel_rfl)) (fun wx hC hL => ?_) (fun v hv => ?_)
      · go_simp
        exact rel_call hC ((HAT.out wx (hC.form HT7.out.free)).mono fun e w'' ⟨u, he, ho, hb⟩ => ⟨u, he, ho.strsV, hb⟩)
      obtain ⟨_, _, aa, ac, rfl, -⟩ := hv
      simp only [Act.put, List.setIfInBounds_toArray, List.set_cons_zero, List.set_cons_succ]
      repeat (first
        | (refine walkR_skip (by rfl) ?_
           simp only [Act.put, List.setIfInBounds_toArray, List.set_cons_zero, List.set_cons_succ])
        | (refine' walkR_plain (by kernel_rfl) rfl rfl (fun wx hC hL => ?_) ?_
           rotate_left
           · (have hlt := Nat.lt_of_lt_of_le htl (Below.size hC)
              simp only [T0 wx hC, T1 wx hC, T2 wx hC, hlt, go_sem]; first | done | (go_simp; (try simp only [bne_self_eq_false, Bool.not_true]); exact ⟨rfl, rfl⟩))
           simp only [Act.put, List.setIfInBounds_toArray, List.set_cons_zero, List.set_cons_succ]))
      refine walkR_rel (by kernel_rfl) rfl rfl (of_decide_eq_true (by kernel_rfl)) (fun wx hC hL => ?_) (fun v hv => ?_)
      · go_simp
        exact rel_call hC ((HQA.out wx (hC.form HT7.out.free)).mono fun e w'' ⟨u, he, ho, hb⟩ => ⟨u, he, ho, hb⟩)
      obtain ⟨_, _, ba, bc, rfl, -⟩ := hv
      simp only [Act.put, List.setIfInBounds_toArray, List.set_cons_zero, List.set_cons_succ]
      repeat (first
        | (refine walkR_skip (by rfl) ?_
           simp only [Act.put, List.setIfInBounds_toArray, List.set_cons_zero, List.set_cons_succ])
        | (refine' walkR_plain (by kernel_rfl) rfl rfl (fun wx hC hL => ?_) ?_
           rotate_left
           · (have hlt := Nat.lt_of_lt_of_le htl (Below.size hC)
              simp only [T0 wx hC, T1 wx hC, T2 wx hC, hlt, go_sem]; first | done | (go_simp; (try simp only [bne_self_eq_false, Bool.not_true]); exact ⟨rfl, rfl⟩))
           simp only [Act.put, List.setIfInBounds_toArray, List.set_cons_zero, List.set_cons_succ]))
      refine fun w8 hC8 hK => ?_
      obtain ⟨aa', ac', e1, hal1, hac1, -, has⟩ : isSV al (.slice aa al.length ac) w8 := hK 67 (by simp [more]) _ rfl
      obtain ⟨ba', bc', e2, hbl1, hbc1, -, hbs⟩ : isSV al (.slice ba al.length bc) w8 := hK 69 (by simp [more]) _ rfl
      injection e1 with e1 _ e3
      subst e1 e3
      injection e2 with e2 _ e3
      subst e2 e3
      have HA8 := hidIt has
      have HBS8 := hidIt hbs
      have HT8 := hidIt (HT7.out.go hC8)
      have HK8 := hidIt (blk_kept HK7.out hC8)
      have HG8 := hidIt (only_trans HG7.out (only_of_below hC8 (some b)))
      have HS8 := hidIt (HS7.out.grow (only_of_below hC8 none))
      have HY8 := hidIt (HY7.out.go hC8)
      unfold maxLen at hac1 hbc1
      clear hK has hbs hC8 T0 T1 T2 HT7 HK7 HG7 HS7 HY7 HAT HQA htl
      go_wp2_with fail
      obtain ⟨t0', t1', t2'⟩ := cell_of3 HK8.out
      have htl := lt_of_block HK8.out
      have T0 : ∀ wx, Ext w8 wx → wx.cell? ⟨pt, 0, none⟩ = some (.int .i64 to) := fun wx hC => Ext.cell t0' ⟨wx, hC⟩
      have T1 : ∀ wx, Ext w8 wx → wx.cell? ⟨pt, 1, none⟩ = some (.string ts) := fun wx hC => Ext.cell t1' ⟨wx, hC⟩
      have T2 : ∀ wx, Ext w8 wx → wx.cell? ⟨pt, 2, none⟩ = some (.slice ta tm tc) := fun wx hC => Ext.cell t2' ⟨wx, hC⟩
      obtain ⟨eb, heb⟩ : ∃ eb, evalB T ly = eb := ⟨_, rfl⟩
      have hlyn : ly.length ≤ 1000000 := by have := HLY.out; omega
      clear t0' t1' t2'
      haveI : Nonempty (In (Ext w8)) := Ext.nonempty w8
      refine wp_region_rel (Ext w8) Grows (relTab [(78, isB eb), (81, isB eb)]) (by kernel_rfl) (by kernel_rfl) (by kernel_rfl) (stable_cons (isB_up _) (stable_cons (isB_up _) (stable_nil _))) (Ext.start w8) ?_
      repeat (first
        | (refine walkR_skip (by rfl) ?_
           simp only [Act.put, List.setIfInBounds_toArray, List.set_cons_zero, List.set_cons_succ])
        | (refine' walkR_plain (by kernel_rfl) rfl rfl (fun wx hC hL => ?_) ?_
           rotate_left
           · (have hlt := Nat.lt_of_lt_of_le htl (Below.size hC)
              simp only [T0 wx hC, T1 wx hC, T2 wx hC, hlt, go_sem]; first | done | (go_simp; (try simp only [bne_self_eq_false, Bool.not_true]); exact ⟨rfl, rfl⟩))
           simp only [Act.put, List.setIfInBounds_toArray, List.set_cons_zero, List.set_cons_succ]))
      refine walkR_rel (by kernel_rfl) rfl rfl (of_decide_eq_true (by kernel_rfl)) (fun wx hC hL => ?_) (fun v hv => ?_)
      · go_simp
        exact rel_call hC ((eval_any T _ ya yc ly hlyn wx (hC.form HT8.out.free) ((HY8.out.go hC).mono fun _ _ _ => trivial)).mono fun e w'' ⟨he, hb⟩ => ⟨_, he, by rw [heb]; rfl, hb⟩)
      obtain ⟨_, _, rfl⟩ := hv
      simp only [Act.put, List.setIfInBounds_toArray, List.set_cons_zero, List.set_cons_succ]
      repeat (first
        | (refine walkR_skip (by rfl) ?_
           simp only [Act.put, List.setIfInBounds_toArray, List.set_cons_zero, List.set_cons_succ])
        | (refine' walkR_plain (by kernel_rfl) rfl rfl (fun wx hC hL => ?_) ?_
           rotate_left
           · (have hlt := Nat.lt_of_lt_of_le htl (Below.size hC)
              simp only [T0 wx hC, T1 wx hC, T2 wx hC, hlt, go_sem]; first | done | (go_simp; (try simp only [bne_self_eq_false, Bool.not_true]); exact ⟨rfl, rfl⟩))
           simp only [Act.put, List.setIfInBounds_toArray, List.set_cons_zero, List.set_cons_succ]))
      refine walkR_rel (by kernel_rfl) rfl rfl (of_decide_eq_true (by kernel_rfl)) (fun wx hC hL => ?_) (fun v hv => ?_)
      · go_simp
        exact rel_call hC ((qeval_any T _ ya yc ly hlyn wx (hC.form HT8.out.free) ((HY8.out.go hC).mono fun _ _ _ => trivial)).mono fun e w'' ⟨he, hb⟩ => ⟨_, he, by rw [heb]; rfl, hb⟩)
      obtain ⟨_, _, rfl⟩ := hv
      simp only [Act.put, List.setIfInBounds_toArray, List.set_cons_zero, List.set_cons_succ]
      repeat (first
        | (refine walkR_skip (by rfl) ?_
           simp only [Act.put, List.setIfInBounds_toArray, List.set_cons_zero, List.set_cons_succ])
        | (refine' walkR_plain (by kernel_rfl) rfl rfl (fun wx hC hL => ?_) ?_
           rotate_left
           · (have hlt := Nat.lt_of_lt_of_le htl (Below.size hC)
              simp only [T0 wx hC, T1 wx hC, T2 wx hC, hlt, go_sem]; first | done | (go_simp; (try simp only [bne_self_eq_false, Bool.not_true]); exact ⟨rfl, rfl⟩))
           simp only [Act.put, List.setIfInBounds_toArray, List.set_cons_zero, List.set_cons_succ]))
      refine fun w9 hC9 _ => ?_
      have HA9 := hidIt (HA8.out.go hC9)
      have HBS9 := hidIt (HBS8.out.go hC9)
      have HT9 := hidIt (HT8.out.go hC9)
      have HK9 := hidIt (blk_kept HK8.out hC9)
      have HG9 := hidIt (only_trans HG8.out (only_of_below hC9 (some b)))
      have HS9 := hidIt (HS8.out.grow (only_of_below hC9 none))
      clear hC9 T0 T1 T2 HT8 HK8 HG8 HS8 HY8 HA8 HBS8 htl heb
      have hal6 := HAL.out
      go_wp2_with fail
      go_loopw [86] (fun i wr => ∃ j : Nat, j ≤ al.length ∧ i = .int .i64 j ∧ Hid (Below w9.heap.size w9 wr)) (fun i _ => al.length - (intOf i).toNat)
      case atStart => exact ⟨0, Nat.zero_le _, rfl, Below.refl _ _⟩
      case round =>
        obtain ⟨j, hj, rfl, hbel⟩ := hrel
        by_cases hjt : j < al.length
        · obtain ⟨b3, o3, rfl, c0, -⟩ := (HA9.out.go hbel.out).at j hjt
          obtain ⟨b4, o4, rfl, d0, -⟩ := (HBS9.out.go hbel.out).at j hjt
          have hjt0 : (j : Int) < (al.length : Int) := by omega
          have hj0 : (0 : Int) ≤ (j : Int) := by omega
          have HNX := hidIt (fun n : Nat => below_dn hbel.out n)
          have hxx : (al[j].toList != al[j].toList) = false := bne_self_eq_false _
          generalize al[j] = x at *
          go_wp2_with fail
          go_quiet (fail)
          go_wp2_with fail
          go_roundw
          case rel => exact ⟨j + 1, by omega, by go_num, HNX.out _⟩
          case measure => simp [intOf]; omega
        · obtain rfl : j = al.length := by omega
          have HTA := hidIt (HT9.out.go hbel.out)
          have HKA := hidIt (blk_kept HK9.out hbel.out)
          have HGA := hidIt (only_trans HG9.out (only_of_below hbel.out (some b)))
          have HSA := hidIt (HS9.out.grow (only_of_below hbel.out none))
          clear HT9 HK9 HG9 HS9 HA9 HBS9
          go_wp2_with fail
          clear hbel
          generalize hWa : wr = wA at *
          clear hWa
          go_loopw [19] (fun i wr => ∃ j q : Nat, j ≤ 3 ∧ i = .int .i64 j ∧ Hid (wA.grownBy wr (some b)) ∧ Hid (SrcAt wr w.heap.size b zs1 q)) (fun i _ => 3 - (intOf i).toNat)
          case atStart => exact ⟨0, q6, by omega, rfl, only_refl _ _, HSA.out⟩
          case round =>
            clear HSA
            obtain ⟨j, qj, hj, rfl, hgj, hsj⟩ := hrel
            by_cases hjt : j < 3
            · have hjt0 : (j : Int) < 3 := by omega
              go_wp2_with fail
              refine (yes_any 4 (by omega) _ _ zs1 qj _ hsj.out).mono ?_
              rintro e wB ⟨yv, yl, qk, rfl, ho, hyl4, -, hsB, hgB⟩
              obtain ⟨yaa, yac, rfl, -, -, hys⟩ := ho.form
              have HYB := hidIt (hys.mono (S' := fun _ => True) fun _ _ _ => trivial)
              have HGJ := hidIt (only_trans hgj.out hgB)
              have HTB := hidIt (HTA.out.keptB HGJ.out)
              have HKB := hidIt ((HGJ.out.block _ (lt_of_block HKA.out) (fun e => hpt (by injection e))).trans HKA.out)
              have HSB := hidIt hsB
              have hyl6 : yl.length ≤ 1000000 := by omega
              clear ho hys hsB hgB hgj hsj
              go_wp2_with fail
              obtain ⟨t0', t1', t2'⟩ := cell_of3 HKB.out
              have htl := lt_of_block HKB.out
              have T0 : ∀ wx, Ext wB wx → wx.cell? ⟨pt, 0, none⟩ = some (.int .i64 to) := fun wx hC => Ext.cell t0' ⟨wx, hC⟩
              have T1 : ∀ wx, Ext wB wx → wx.cell? ⟨pt, 1, none⟩ = some (.string ts) := fun wx hC => Ext.cell t1' ⟨wx, hC⟩
              have T2 : ∀ wx, Ext wB wx → wx.cell? ⟨pt, 2, none⟩ = some (.slice ta tm tc) := fun wx hC => Ext.cell t2' ⟨wx, hC⟩
              obtain ⟨eb, heb⟩ : ∃ eb, evalB T yl = eb := ⟨_, rfl⟩
              clear t0' t1' t2'
              haveI : Nonempty (In (Ext wB)) := Ext.nonempty wB
              refine wp_region_rel (Ext wB) Grows (relTab [(107, isB eb), (110, isB eb)]) (by kernel_rfl) (by kernel_rfl) (by kernel_rfl) (stable_cons (isB_up _) (stable_cons (isB_up _) (stable_nil _))) (Ext.start wB) ?_
              repeat (first
                | (refine walkR_skip (by rfl) ?_
                   simp only [Act.put, List.setIfInBounds_toArray, List.set_cons_zero, List.set_cons_succ])
                | (refine' walkR_plain (by kernel_rfl) rfl rfl (fun wx hC hL => ?_) ?_
                   rotate_left
                   · (have hlt := Nat.lt_of_lt_of_le htl (Below.size hC)
                      simp only [T0 wx hC, T1 wx hC, T2 wx hC, hlt, go_sem]; first | done | (go_simp; (try simp only [bne_self_eq_false, Bool.not_true]); exact ⟨rfl, rfl⟩))
                   simp only [Act.put, List.setIfInBounds_toArray, List.set_cons_zero, List.set_cons_succ]))
              refine walkR_rel (by kernel_rfl) rfl rfl (of_decide_eq_true (by kernel_rfl)) (fun wx hC hL => ?_) (fun v hv => ?_)
              · go_simp
                exact rel_call hC ((eval_any T _ yaa yac yl hyl6 wx (hC.form HTB.out.free) (HYB.out.go hC)).mono fun e w'' ⟨he, hb⟩ => ⟨_, he, by rw [heb]; rfl, hb⟩)
              obtain ⟨_, _, rfl⟩ := hv
              simp only [Act.put, List.setIfInBounds_toArray, List.set_cons_zero, List.set_cons_succ]
              repeat (first
                | (refine walkR_skip (by rfl) ?_
                   simp only [Act.put, List.setIfInBounds_toArray, List.set_cons_zero, List.set_cons_succ])
                | (refine' walkR_plain (by kernel_rfl) rfl rfl (fun wx hC hL => ?_) ?_
                   rotate_left
                   · (have hlt := Nat.lt_of_lt_of_le htl (Below.size hC)
                      simp only [T0 wx hC, T1 wx hC, T2 wx hC, hlt, go_sem]; first | done | (go_simp; (try simp only [bne_self_eq_false, Bool.not_true]); exact ⟨rfl, rfl⟩))
                   simp only [Act.put, List.setIfInBounds_toArray, List.set_cons_zero, List.set_cons_succ]))
              refine walkR_rel (by kernel_rfl) rfl rfl (of_decide_eq_true (by kernel_rfl)) (fun wx hC hL => ?_) (fun v hv => ?_)
              · go_simp
                exact rel_call hC ((qeval_any T _ yaa yac yl hyl6 wx (hC.form HTB.out.free) (HYB.out.go hC)).mono fun e w'' ⟨he, hb⟩ => ⟨_, he, by rw [heb]; rfl, hb⟩)
              obtain ⟨_, _, rfl⟩ := hv
              simp only [Act.put, List.setIfInBounds_toArray, List.set_cons_zero, List.set_cons_succ]
              repeat (first
                | (refine walkR_skip (by rfl) ?_
                   simp only [Act.put, List.setIfInBounds_toArray, List.set_cons_zero, List.set_cons_succ])
                | (refine' walkR_plain (by kernel_rfl) rfl rfl (fun wx hC hL => ?_) ?_
                   rotate_left
                   · (have hlt := Nat.lt_of_lt_of_le htl (Below.size hC)
                      simp only [T0 wx hC, T1 wx hC, T2 wx hC, hlt, go_sem]; first | done | (go_simp; (try simp only [bne_self_eq_false, Bool.not_true]); exact ⟨rfl, rfl⟩))
                   simp only [Act.put, List.setIfInBounds_toArray, List.set_cons_zero, List.set_cons_succ]))
              refine fun wC hCC _ => ?_
              have HGC := hidIt (only_trans HGJ.out (only_of_below hCC (some b)))
              have HSC := hidIt (HSB.out.grow (only_of_below hCC none))
              clear hCC T0 T1 T2 HTB HKB HGJ HSB HYB htl heb
              go_wp2_with fail
              go_roundw
              case rel => exact ⟨j + 1, qk, by omega, by go_num, HGC.out, HSC.out⟩
              case measure => simp [intOf]; omega
            · obtain rfl : j = 3 := by omega
              have HTD := hidIt (HTA.out.keptB hgj.out)
              have HKD := hidIt ((hgj.out.block _ (lt_of_block HKA.out) (fun e => hpt (by injection e))).trans HKA.out)
              have HGD := hidIt (only_trans HGA.out hgj.out)
              have HSD := hidIt hsj.out
              clear HTA HKA HGA hsj
              go_wp2_with fail
              clear hgj
              generalize hWa : wr = wD at *
              clear hWa
              go_loopw [114] (fun i wr => ∃ j : Nat, j ≤ 4 ∧ i = .int .i64 j ∧ Hid (Below wD.heap.size wD wr)) (fun i _ => 4 - (intOf i).toNat)
              case atStart => exact ⟨0, by omega, rfl, Below.refl _ _⟩
              case round =>
                obtain ⟨j, hj, rfl, hbel⟩ := hrel
                by_cases hjt : j < 4
                · obtain ⟨U, uo, us, ua, um, uc, c0, c1, c2, hUn, hf⟩ := (HRW.out.kept hg6 hgb (only_trans HGD.out (only_of_below hbel.out (some b)))) j hjt
                  have hjt0 : (j : Int) < 4 := by omega
                  have hj0 : (0 : Int) ≤ (j : Int) := by omega
                  have hgu : Below wr.heap.size wr (wr.alloc (.cells #[.int .i64 uo, .string us, .slice ua um uc] 24)) := Grows.alloc _ _
                  have HTE := hidIt ((HTD.out.go hbel.out).go hgu)
                  have HUE := hidIt (hf.go hgu)
                  have HKE := hidIt (blk_kept (blk_kept HKD.out hbel.out) hgu)
                  have HPE := hidIt (heap_alloc_new wr (.cells #[.int .i64 uo, .string us, .slice ua um uc] 24))
                  have HBE := hidIt (hbel.out.trans (Below.mono hgu hbel.out.size))
                  have HUN : Hid (U.nodes ≤ 1000000) := by show _ ≤ _; omega
                  clear hf hgu hUn hbel
                  go_wp2_with fail
                  clear c0 c1 c2
                  generalize hWa : (wr.alloc (.cells #[.int .i64 uo, .string us, .slice ua um uc] 24)) = wE at *
                  clear hWa
                  generalize wr.heap.size = pu at *
                  obtain ⟨t0', t1', t2'⟩ := cell_of3 HKE.out
                  have htl := lt_of_block HKE.out
                  obtain ⟨u0', u1', u2'⟩ := cell_of3 HPE.out
                  have hul := lt_of_block HPE.out
                  have T0 : ∀ wx, Ext wE wx → wx.cell? ⟨pt, 0, none⟩ = some (.int .i64 to) := fun wx hC => Ext.cell t0' ⟨wx, hC⟩
                  have T1 : ∀ wx, Ext wE wx → wx.cell? ⟨pt, 1, none⟩ = some (.string ts) := fun wx hC => Ext.cell t1' ⟨wx, hC⟩
                  have T2 : ∀ wx, Ext wE wx → wx.cell? ⟨pt, 2, none⟩ = some (.slice ta tm tc) := fun wx hC => Ext.cell t2' ⟨wx, hC⟩
                  have U0 : ∀ wx, Ext wE wx → wx.cell? ⟨pu, 0, none⟩ = some (.int .i64 uo) := fun wx hC => Ext.cell u0' ⟨wx, hC⟩
                  have U1 : ∀ wx, Ext wE wx → wx.cell? ⟨pu, 1, none⟩ = some (.string us) := fun wx hC => Ext.cell u1' ⟨wx, hC⟩
                  have U2 : ∀ wx, Ext wE wx → wx.cell? ⟨pu, 2, none⟩ = some (.slice ua um uc) := fun wx hC => Ext.cell u2' ⟨wx, hC⟩
                  obtain ⟨sb, hsb⟩ : ∃ sb, sameP T U = sb := ⟨_, rfl⟩
                  have HC1 := hidIt (fun (W : World) h h' => subst_any q U HUN.out T HTN.out (.agg #[.int .i64 to, .string ts, .slice ta tm tc]) (.agg #[.int .i64 uo, .string us, .slice ua um uc]) W h h')
                  have HC2 := hidIt (fun (W : World) h h' => qsubst_any q HQ.out U HUN.out T HTN.out (.agg #[.int .i64 to, .string ts, .slice ta tm tc]) (.agg #[.int .i64 uo, .string us, .slice ua um uc]) W h h')
                  have HC3 := hidIt (fun (W : World) h h' => subst_any ⟨#[97]⟩ U HUN.out T HTN.out (.agg #[.int .i64 to, .string ts, .slice ta tm tc]) (.agg #[.int .i64 uo, .string us, .slice ua um uc]) W h h')
                  have HC4 := hidIt (fun (W : World) h h' => qsubst_any ⟨#[97]⟩ (by unfold maxLen; decide) U HUN.out T HTN.out (.agg #[.int .i64 to, .string ts, .slice ta tm tc]) (.agg #[.int .i64 uo, .string us, .slice ua um uc]) W h h')
                  generalize substT q U T = R at *
                  generalize substT ⟨#[97]⟩ U T = V at *
                  clear t0' t1' t2' u0' u1' u2'
                  haveI : Nonempty (In (Ext wE)) := Ext.nonempty wE
                  refine wp_region_rel (Ext wE) Grows (relTab [(120, isB sb), (123, isB sb), (129, isForm anyS R), (133, isForm anyS R), (134, isB true), (140, isForm anyS V), (143, isForm anyS V), (144, isB true)]) (by kernel_rfl) (by kernel_rfl) (by kernel_rfl) (stable_cons (isB_up _) (stable_cons (isB_up _) (stable_cons (isForm_up _ _) (stable_cons (isForm_up _ _) (stable_cons (isB_up _) (stable_cons (isForm_up _ _) (stable_cons (isForm_up _ _) (stable_cons (isB_up _) (stable_nil _))))))))) (Ext.start wE) ?_
                  repeat (first
                    | (refine walkR_skip (by rfl) ?_
                       simp only [Act.put, List.setIfInBounds_toArray, List.set_cons_zero, List.set_cons_succ])
                    | (refine' walkR_plain (by kernel_rfl) rfl rfl (fun wx hC hL => ?_) ?_
                       rotate_left
                       · (have hlt := Nat.lt_of_lt_of_le htl (Below.size hC)
                          have hlu := Nat.lt_of_lt_of_le hul (Below.size hC)
                          simp only [T0 wx hC, T1 wx hC, T2 wx hC, hlt, U0 wx hC, U1 wx hC, U2 wx hC, hlu, go_sem]; first | done | (go_simp; (try simp only [bne_self_eq_false, Bool.not_true]); exact ⟨rfl, rfl⟩))
                       simp only [Act.put, List.setIfInBounds_toArray, List.set_cons_zero, List.set_cons_succ]))
                  refine walkR_rel (by kernel_rfl) rfl rfl (of_decide_eq_true (by kernel_rfl)) (fun wx hC hL => ?_) (fun v hv => ?_)
                  · go_simp
                    exact rel_call hC ((fsameP_any T U _ _ wx (hC.form HTE.out.free) (hC.form HUE.out.free)).mono fun e w'' ⟨he, hb⟩ => ⟨_, he, by rw [hsb]; rfl, hb⟩)
                  obtain ⟨_, _, rfl⟩ := hv
                  simp only [Act.put, List.setIfInBounds_toArray, List.set_cons_zero, List.set_cons_succ]
                  repeat (first
                    | (refine walkR_skip (by rfl) ?_
                       simp only [Act.put, List.setIfInBounds_toArray, List.set_cons_zero, List.set_cons_succ])
                    | (refine' walkR_plain (by kernel_rfl) rfl rfl (fun wx hC hL => ?_) ?_
                       rotate_left
                       · (have hlt := Nat.lt_of_lt_of_le htl (Below.size hC)
                          have hlu := Nat.lt_of_lt_of_le hul (Below.size hC)
                          simp only [T0 wx hC, T1 wx hC, T2 wx hC, hlt, U0 wx hC, U1 wx hC, U2 wx hC, hlu, go_sem]; first | done | (go_simp; (try simp only [bne_self_eq_false, Bool.not_true]); exact ⟨rfl, rfl⟩))
                       simp only [Act.put, List.setIfInBounds_toArray, List.set_cons_zero, List.set_cons_succ]))
                  refine walkR_rel (by kernel_rfl) rfl rfl (of_decide_eq_true (by kernel_rfl)) (fun wx hC hL => ?_) (fun v hv => ?_)
                  · go_simp
                    exact rel_call hC ((qsameP_any T U _ _ wx (hC.form HTE.out.free) (hC.form HUE.out.free)).mono fun e w'' ⟨he, hb⟩ => ⟨_, he, by rw [hsb]; rfl, hb⟩)
                  obtain ⟨_, _, rfl⟩ := hv
                  simp only [Act.put, List.setIfInBounds_toArray, List.set_cons_zero, List.set_cons_succ]
                  repeat (first
                    | (refine walkR_skip (by rfl) ?_
                       simp only [Act.put, List.setIfInBounds_toArray, List.set_cons_zero, List.set_cons_succ])
                    | (refine' walkR_plain (by kernel_rfl) rfl rfl (fun wx hC hL => ?_) ?_
                       rotate_left
                       · (have hlt := Nat.lt_of_lt_of_le htl (Below.size hC)
                          have hlu := Nat.lt_of_lt_of_le hul (Below.size hC)
                          simp only [T0 wx hC, T1 wx hC, T2 wx hC, hlt, U0 wx hC, U1 wx hC, U2 wx hC, hlu, go_sem]; first | done | (go_simp; (try simp only [bne_self_eq_false, Bool.not_true]); exact ⟨rfl, rfl⟩))
                       simp only [Act.put, List.setIfInBounds_toArray, List.set_cons_zero, List.set_cons_succ]))
                  refine walkR_rel (by kernel_rfl) rfl rfl (of_decide_eq_true (by kernel_rfl)) (fun wx hC hL => ?_) (fun v hv => ?_)
                  · go_simp
                    exact rel_call hC ((HC1.out wx (hC.form HTE.out.free) (hC.form HUE.out.free)).mono fun e w'' h => h.rel)
                  obtain ⟨_, _, hv⟩ := hv
                  obtain ⟨a129, c129, -, -, rfl, -⟩ := FormIn.form hv
                  simp only [Act.put, List.setIfInBounds_toArray, List.set_cons_zero, List.set_cons_succ]
                  repeat (first
                    | (refine walkR_skip (by rfl) ?_
                       simp only [Act.put, List.setIfInBounds_toArray, List.set_cons_zero, List.set_cons_succ])
                    | (refine' walkR_plain (by kernel_rfl) rfl rfl (fun wx hC hL => ?_) ?_
                       rotate_left
                       · (have hlt := Nat.lt_of_lt_of_le htl (Below.size hC)
                          have hlu := Nat.lt_of_lt_of_le hul (Below.size hC)
                          simp only [T0 wx hC, T1 wx hC, T2 wx hC, hlt, U0 wx hC, U1 wx hC, U2 wx hC, hlu, go_sem]; first | done | (go_simp; (try simp only [bne_self_eq_false, Bool.not_true]); exact ⟨rfl, rfl⟩))
                       simp only [Act.put, List.setIfInBounds_toArray, List.set_cons_zero, List.set_cons_succ]))
                  refine walkR_rel (by kernel_rfl) rfl rfl (of_decide_eq_true (by kernel_rfl)) (fun wx hC hL => ?_) (fun v hv => ?_)
                  · go_simp
                    exact rel_call hC ((HC2.out wx (hC.form HTE.out.free) (hC.form HUE.out.free)).mono fun e w'' h => h.rel)
                  obtain ⟨_, _, hv⟩ := hv
                  obtain ⟨a133, c133, -, -, rfl, -⟩ := FormIn.form hv
                  simp only [Act.put, List.setIfInBounds_toArray, List.set_cons_zero, List.set_cons_succ]
                  repeat (first
                    | (refine walkR_skip (by rfl) ?_
                       simp only [Act.put, List.setIfInBounds_toArray, List.set_cons_zero, List.set_cons_succ])
                    | (refine' walkR_plain (by kernel_rfl) rfl rfl (fun wx hC hL => ?_) ?_
                       rotate_left
                       · (have hlt := Nat.lt_of_lt_of_le htl (Below.size hC)
                          have hlu := Nat.lt_of_lt_of_le hul (Below.size hC)
                          simp only [T0 wx hC, T1 wx hC, T2 wx hC, hlt, U0 wx hC, U1 wx hC, U2 wx hC, hlu, go_sem]; first | done | (go_simp; (try simp only [bne_self_eq_false, Bool.not_true]); exact ⟨rfl, rfl⟩))
                       simp only [Act.put, List.setIfInBounds_toArray, List.set_cons_zero, List.set_cons_succ]))
                  refine walkR_rel (by kernel_rfl) rfl rfl (of_decide_eq_true (by kernel_rfl)) (fun wx hC hL => ?_) (fun v hv => ?_)
                  · have g1 : isForm anyS R _ wx := hL.get 129 (by simp [more]) (by kernel_rfl) rfl rfl
                    have g2 : isForm anyS R _ wx := hL.get 133 (by simp [more]) (by kernel_rfl) rfl rfl
                    go_simp
                    exact rel_call hC ((qsameP_any R R _ _ wx (FormIn.free g1) (FormIn.free g2)).mono fun e w'' ⟨he, hb⟩ => ⟨_, he, by rw [sameP_true rfl]; rfl, hb⟩)
                  obtain ⟨_, _, rfl⟩ := hv
                  simp only [Act.put, List.setIfInBounds_toArray, List.set_cons_zero, List.set_cons_succ]
                  repeat (first
                    | (refine walkR_skip (by rfl) ?_
                       simp only [Act.put, List.setIfInBounds_toArray, List.set_cons_zero, List.set_cons_succ])
                    | (refine' walkR_plain (by kernel_rfl) rfl rfl (fun wx hC hL => ?_) ?_
                       rotate_left
                       · (have hlt := Nat.lt_of_lt_of_le htl (Below.size hC)
                          have hlu := Nat.lt_of_lt_of_le hul (Below.size hC)
                          simp only [T0 wx hC, T1 wx hC, T2 wx hC, hlt, U0 wx hC, U1 wx hC, U2 wx hC, hlu, go_sem]; first | done | (go_simp; (try simp only [bne_self_eq_false, Bool.not_true]); exact ⟨rfl, rfl⟩))
                       simp only [Act.put, List.setIfInBounds_toArray, List.set_cons_zero, List.set_cons_succ]))
                  refine walkR_rel (by kernel_rfl) rfl rfl (of_decide_eq_true (by kernel_rfl)) (fun wx hC hL => ?_) (fun v hv => ?_)
                  · go_simp
                    exact rel_call hC ((HC3.out wx (hC.form HTE.out.free) (hC.form HUE.out.free)).mono fun e w'' h => h.rel)
                  obtain ⟨_, _, hv⟩ := hv
                  obtain ⟨a140, c140, -, -, rfl, -⟩ := FormIn.form hv
                  simp only [Act.put, List.setIfInBounds_toArray, List.set_cons_zero, List.set_cons_succ]
                  repeat (first
                    | (refine walkR_skip (by rfl) ?_
                       simp only [Act.put, List.setIfInBounds_toArray, List.set_cons_zero, List.set_cons_succ])
                    | (refine' walkR_plain (by kernel_rfl) rfl rfl (fun wx hC hL => ?_) ?_
                       rotate_left
                       · (have hlt := Nat.lt_of_lt_of_le htl (Below.size hC)
                          have hlu := Nat.lt_of_lt_of_le hul (Below.size hC)
                          simp only [T0 wx hC, T1 wx hC, T2 wx hC, hlt, U0 wx hC, U1 wx hC, U2 wx hC, hlu, go_sem]; first | done | (go_simp; (try simp only [bne_self_eq_false, Bool.not_true]); exact ⟨rfl, rfl⟩))
                       simp only [Act.put, List.setIfInBounds_toArray, List.set_cons_zero, List.set_cons_succ]))
                  refine walkR_rel (by kernel_rfl) rfl rfl (of_decide_eq_true (by kernel_rfl)) (fun wx hC hL => ?_) (fun v hv => ?_)
                  · go_simp
                    exact rel_call hC ((HC4.out wx (hC.form HTE.out.free) (hC.form HUE.out.free)).mono fun e w'' h => h.rel)
                  obtain ⟨_, _, hv⟩ := hv
                  obtain ⟨a143, c143, -, -, rfl, -⟩ := FormIn.form hv
                  simp only [Act.put, List.setIfInBounds_toArray, List.set_cons_zero, List.set_cons_succ]
                  repeat (first
                    | (refine walkR_skip (by rfl) ?_
                       simp only [Act.put, List.setIfInBounds_toArray, List.set_cons_zero, List.set_cons_succ])
                    | (refine' walkR_plain (by kernel_rfl) rfl rfl (fun wx hC hL => ?_) ?_
                       rotate_left
                       · (have hlt := Nat.lt_of_lt_of_le htl (Below.size hC)
                          have hlu := Nat.lt_of_lt_of_le hul (Below.size hC)
                          simp only [T0 wx hC, T1 wx hC, T2 wx hC, hlt, U0 wx hC, U1 wx hC, U2 wx hC, hlu, go_sem]; first | done | (go_simp; (try simp only [bne_self_eq_false, Bool.not_true]); exact ⟨rfl, rfl⟩))
                       simp only [Act.put, List.setIfInBounds_toArray, List.set_cons_zero, List.set_cons_succ]))
                  refine walkR_rel (by kernel_rfl) rfl rfl (of_decide_eq_true (by kernel_rfl)) (fun wx hC hL => ?_) (fun v hv => ?_)
                  · have g1 : isForm anyS V _ wx := hL.get 140 (by simp [more]) (by kernel_rfl) rfl rfl
                    have g2 : isForm anyS V _ wx := hL.get 143 (by simp [more]) (by kernel_rfl) rfl rfl
                    go_simp
                    exact rel_call hC ((qsameP_any V V _ _ wx (FormIn.free g1) (FormIn.free g2)).mono fun e w'' ⟨he, hb⟩ => ⟨_, he, by rw [sameP_true rfl]; rfl, hb⟩)
                  obtain ⟨_, _, rfl⟩ := hv
                  simp only [Act.put, List.setIfInBounds_toArray, List.set_cons_zero, List.set_cons_succ]
                  repeat (first
                    | (refine walkR_skip (by rfl) ?_
                       simp only [Act.put, List.setIfInBounds_toArray, List.set_cons_zero, List.set_cons_succ])
                    | (refine' walkR_plain (by kernel_rfl) rfl rfl (fun wx hC hL => ?_) ?_
                       rotate_left
                       · (have hlt := Nat.lt_of_lt_of_le htl (Below.size hC)
                          have hlu := Nat.lt_of_lt_of_le hul (Below.size hC)
                          simp only [T0 wx hC, T1 wx hC, T2 wx hC, hlt, U0 wx hC, U1 wx hC, U2 wx hC, hlu, go_sem]; first | done | (go_simp; (try simp only [bne_self_eq_false, Bool.not_true]); exact ⟨rfl, rfl⟩))
                       simp only [Act.put, List.setIfInBounds_toArray, List.set_cons_zero, List.set_cons_succ]))
                  refine fun wF hCF _ => ?_
                  have HBF := hidIt (HBE.out.trans (Below.mono hCF HBE.out.size))
                  clear hCF T0 T1 T2 U0 U1 U2 HTE HUE HKE HPE HBE htl hul hsb HC1 HC2 HC3 HC4
                  go_wp2_with fail
                  go_roundw
                  case rel => exact ⟨j + 1, by omega, by go_num, HBF.out⟩
                  case measure => simp [intOf]; omega
                · obtain rfl : j = 4 := by omega
                  have HGE := hidIt (only_trans HGD.out (only_of_below hbel.out (some b)))
                  have HSE := hidIt (HSD.out.grow (only_of_below hbel.out none))
                  go_wp2_with fail
                  go_roundw
                  case rel => exact ⟨k + 1, _, by omega, by go_num, HGE.out, HSE.out⟩
                  case measure => simp [intOf]; omega
    · obtain rfl : k = 4 := by omega
      have HSGW : Hid (SignsAt wr) := HSG.out.go (below_of_only HGW.out hbw2)
      go_wp2_with fail
      refine (awake2_any _ HSGW.out).mono ?_
      rintro e w9 ⟨rfl, hb⟩
      have HG9 := hidIt (only_trans HGW.out (only_of_below hb _))
      clear hb
      go_wp2_with fail
      go_ret
      exact ⟨rfl, below_of_only HG9.out hbw2⟩
end Go.Proofs.YtilkpjcbmllgmaaGreatDoor

namespace Go.Proofs.YtilkpjcbmllgmaaGreatDoor
set_option linter.unusedVariables false
set_option linter.unusedSimpArgs false
open Go.ChangeShapes Go.WideShapes Go.ChangeAt Go.RowKit

theorem ownKn' : ownKnob Tryz.prog.godebug = none := by kernel_rfl
theorem laidOutF' : laidOutB Tryz.prog = true := by kernel_rfl
theorem gSigns : Tryz.prog.globalNamed "deliberation/formula.signs" = some 0 := by kernel_rfl
theorem gSignsType : (Tryz.prog.globals[0]?).map (·.type) = some 133 := by kernel_rfl
theorem cellsArr : Tryz.prog.cellsOf 133 = 7 := by kernel_rfl
theorem cellsStr : Tryz.prog.cellsOf 9 = 1 := by kernel_rfl

/-- An array of strings that reads as these holds these. -/
theorem cells_of_texts {H : Type} {enc : TypeId × Value → H} {P : Program} {w : World} {base : Nat} {sp : Nat → Bool} {held : Bool} {fuel : Nat} {t e : TypeId} {n : Nat} {cs : List Value} {zs : List (List UInt8)} {p : List MemPlace}
    (ht : P.underlying t = some (.array n e)) (he : P.underlying e = some .string) (hce : P.cellsOf e = 1) (hct : P.cellsOf t = n)
    (h : DataW.trod enc P w base sp held fuel t cs = some (.agg (zs.map fun z => .lit (.string z)), p)) : cs = zs.map fun z => Value.string ⟨z.toArray⟩ := by
  obtain ⟨xs, m, rfl, hx, hl, hn, hel⟩ := DataW.trod_array ht h
  have hxs : xs.map (·.1) = zs.map fun z => (DataW.lit (.string z) : DataW H) := by
    have := congrArg Prod.fst hx
    simpa using this.symm
  have hzl : zs.length = n := by
    have := congrArg List.length hxs
    simp at this
    omega
  apply List.ext_getElem?
  intro i
  by_cases hi : i < n
  · have hx2 : i < xs.length := by omega
    have hf := hel i hi
    rw [List.getElem?_eq_getElem hx2, hce, Nat.mul_one] at hf
    obtain ⟨s, hc, hsx, -⟩ := DataW.trod_string he hf
    have h1 : cs[i]? = some (.string s) := by
      have := congrArg (·[0]?) hc
      simpa [List.getElem?_take, List.getElem?_drop] using this
    have h2 : (xs.map (·.1))[i]? = some (DataW.lit (.string s.data.toList) : DataW H) := by
      rw [List.getElem?_map, List.getElem?_eq_getElem hx2, hsx]
      rfl
    rw [hxs] at h2
    simp only [List.getElem?_map, Option.map_eq_some_iff, DataW.lit.injEq, Lit.string.injEq] at h2
    obtain ⟨z', hz', e2⟩ := h2
    rw [h1, List.getElem?_map, hz', e2]
    rfl
  · rw [List.getElem?_eq_none (by omega), List.getElem?_eq_none (by simp; omega)]

/-- What the row's list gives. -/
theorem signs_of_laid {W : World} (h : laidMetH Tryz.prog [("deliberation/formula.signs", Rows.laid_deliberation_formula_signs)] W) : SignsAt W := by
  obtain ⟨ps, ⟨g', t', cs, fuel, p, q, hg', ht', hvar, hd, _, _⟩, _⟩ := h
  obtain rfl := Option.some.inj (gSigns.symm.trans hg')
  obtain rfl := Option.some.inj (gSignsType.symm.trans ht')
  have hc := cells_of_texts (zs := sgn) Tryz.underlying133 Tryz.underlying9 cellsStr cellsArr hd
  have hcs : cs = #[.string ⟨#[60, 45, 62]⟩, .string ⟨#[45, 62]⟩, .string ⟨#[126]⟩, .string ⟨#[38]⟩, .string ⟨#[124]⟩, .string ⟨#[40]⟩, .string ⟨#[41]⟩] := by
    apply Array.ext'
    rw [hc]
    rfl
  subst hcs
  have hcell := World.var?_cell gSigns hvar
  have h0 : W.cell? ⟨0, 0, none⟩ = some (.string ⟨#[60, 45, 62]⟩) := hcell 0
  exact ⟨World.block_lt_of_cell? W ⟨0, 0, none⟩ h0, h0, hcell 1, hcell 2, hcell 3, hcell 4, hcell 5, hcell 6⟩

/-- A world for the witness: the settled one, the table holding what its initialiser lays. -/
noncomputable def laidWorld (os : Os) : World :=
  { World.holding Tryz.prog os ⟨#[], #[], []⟩ with heap := (World.holding Tryz.prog os ⟨#[], #[], []⟩).heap.modify 0 fun
      | .cells _ t frozen => .cells #[.string ⟨#[60, 45, 62]⟩, .string ⟨#[45, 62]⟩, .string ⟨#[126]⟩, .string ⟨#[38]⟩, .string ⟨#[124]⟩, .string ⟨#[40]⟩, .string ⟨#[41]⟩] t frozen
      | o => o }
end Go.Proofs.YtilkpjcbmllgmaaGreatDoor
