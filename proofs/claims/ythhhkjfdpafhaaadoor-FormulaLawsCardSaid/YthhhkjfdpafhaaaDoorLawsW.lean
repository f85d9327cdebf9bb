/- The law FormulaLaws: the call answers true for every list of numbers. -/
import Derived.Test.YthhhkjfdpafhaaaDoorRelT
import Derived.Test.YthhhkjfdpafhaaaDoorAwake2
import Derived.Test.YthhhkjfdpafhaaaDoorValue2
import Derived.Test.YthhhkjfdpafhaaaDoorNew
namespace Go.Proofs.YthhhkjfdpafhaaaDoor
open Go Go.RowKit

theorem wellF_node {op : Int} {ts : List Tree} (hk : kindB (.node op ⟨#[]⟩ ts) = true) (ho : op ≠ 3) (h : ∀ t ∈ ts, wellF t = true) : wellF (.node op ⟨#[]⟩ ts) = true := by
  have hn : nameB (.node op ⟨#[]⟩ ts) = true := by
    unfold nameB
    rw [if_neg (show ¬ (Tree.node op ⟨#[]⟩ ts).op = 3 from ho)]
    rfl
  have h1 : allL (fun t => kindB t && nameB t) ts = true := by
    clear hk hn
    induction ts with
    | nil => rfl
    | cons t ts ih => simp only [allL, Bool.and_eq_true]; exact ⟨h t (by simp), ih fun x hx => h x (by simp [hx])⟩
  show (kindB _ && nameB _ && allL _ ts) = true
  rw [hk, hn, h1]
  rfl
theorem wellF_gen {n : Nat} {t : Tree} (h : t.all (nodeG n) = true) : wellF t = true := all_imp (fun t ht => by rw [nodeG_kind ht, nodeG_name ht]; rfl) t h

theorem evalB_well {t : Tree} (h : wellF t = true) (y : List ByteArray) : evalB t y = valueB (inB y) t := by unfold evalB; rw [h, Bool.true_and]
theorem ev4 {f : Tree} (hf : wellF f = true) : wellF (.node 4 ⟨#[]⟩ [f]) = true ∧ ∀ y, evalB (.node 4 ⟨#[]⟩ [f]) y = !evalB f y := by
  have h : wellF (.node 4 ⟨#[]⟩ [f]) = true := wellF_node rfl (by decide) (by simpa using hf)
  refine ⟨h, fun y => ?_⟩
  rw [evalB_well h, evalB_well hf]
  simp [valueB, valuesB]
theorem ev5 {f g : Tree} (hf : wellF f = true) (hg : wellF g = true) : wellF (.node 5 ⟨#[]⟩ [f, g]) = true ∧ ∀ y, evalB (.node 5 ⟨#[]⟩ [f, g]) y = (evalB f y && evalB g y) := by
  have h : wellF (.node 5 ⟨#[]⟩ [f, g]) = true := wellF_node rfl (by decide) (by simp [hf, hg])
  refine ⟨h, fun y => ?_⟩
  rw [evalB_well h, evalB_well hf, evalB_well hg]
  simp [valueB, valuesB]
theorem ev6 {f g : Tree} (hf : wellF f = true) (hg : wellF g = true) : wellF (.node 6 ⟨#[]⟩ [f, g]) = true ∧ ∀ y, evalB (.node 6 ⟨#[]⟩ [f, g]) y = (evalB f y || evalB g y) := by
  have h : wellF (.node 6 ⟨#[]⟩ [f, g]) = true := wellF_node rfl (by decide) (by simp [hf, hg])
  refine ⟨h, fun y => ?_⟩
  rw [evalB_well h, evalB_well hf, evalB_well hg]
  simp [valueB, valuesB]
theorem ev7 {f g : Tree} (hf : wellF f = true) (hg : wellF g = true) : wellF (.node 7 ⟨#[]⟩ [f, g]) = true ∧ ∀ y, evalB (.node 7 ⟨#[]⟩ [f, g]) y = (!evalB f y || evalB g y) := by
  have h : wellF (.node 7 ⟨#[]⟩ [f, g]) = true := wellF_node rfl (by decide) (by simp [hf, hg])
  refine ⟨h, fun y => ?_⟩
  rw [evalB_well h, evalB_well hf, evalB_well hg]
  simp [valueB, valuesB]
theorem ev8 {f g : Tree} (hf : wellF f = true) (hg : wellF g = true) : wellF (.node 8 ⟨#[]⟩ [f, g]) = true ∧ ∀ y, evalB (.node 8 ⟨#[]⟩ [f, g]) y = (evalB f y == evalB g y) := by
  have h : wellF (.node 8 ⟨#[]⟩ [f, g]) = true := wellF_node rfl (by decide) (by simp [hf, hg])
  refine ⟨h, fun y => ?_⟩
  rw [evalB_well h, evalB_well hf, evalB_well hg]
  simp [valueB, valuesB]

/-- Every block. -/
def anyS : Nat → Prop := fun b => (none : Option Nat) ≠ some b
theorem anyS_all (b : Nat) : anyS b := fun e => by cases e

/-- Eval in the walk. -/
theorem rel_eval {W w : World} (hC : Ext W w) {t : Tree} {v : Value} (hv : FormAt w none v t) {ya : Option Addr} {yc : Nat} {yes : List ByteArray} (hn : yes.length ≤ 1000000) (hy : StrsIn W (fun _ => True) ya yes) {b : Bool} (hb : evalB t yes = b) :
    Calls Tryd.prog 30 #[v, .slice ya yes.length yc] w fun e w'' => ∃ u, e = .returned u ∧ Ext W w'' ∧ Grows w w'' ∧ isB b u w'' :=
  rel_call hC ((eval_any t v ya yc yes hn w hv (StrsIn.go hy hC)).mono fun _ _ ⟨he, hbl⟩ => ⟨_, he, by rw [hb]; rfl, hbl⟩)
theorem rel_node {W w : World} (hC : Ext W w) {S : Nat → Prop} {op : Int} (hop : I64 op) {ts : List Tree} {v : Value} (h : isForms S ts v w) :
    Calls Tryd.prog 33 #[.int .i64 op, v] w fun e w'' => ∃ u, e = .returned u ∧ Ext W w'' ∧ Grows w w'' ∧ isForm S (.node op ⟨#[]⟩ ts) u w'' :=
  rel_call hC ((lnode_any S op hop ts v w h).mono fun _ _ ⟨_, _, he, hf, hb⟩ => ⟨_, he, hf, hb⟩)

theorem ext_cell {W : World} {b o : Nat} {v : Value} (h : W.cell? ⟨b, o, none⟩ = some v) : ∀ w, Ext W w → w.cell? ⟨b, o, none⟩ = some v := fun w hw => Ext.cell h ⟨w, hw⟩

/-- A box with a formula, beside the reader's block b. -/
structure FBox (w : World) (b p : Nat) (o : Int) (s : ByteArray) (a : Option Addr) (n c : Nat) (t : Tree) : Prop where
  ne : p ≠ b
  blk : w.heap[p]? = some (.cells #[.int .i64 o, .string s, .slice a n c] 24 (0, 0))
  form : FormAt w (some b) (.agg #[.int .i64 o, .string s, .slice a n c]) t
theorem FBox.kept {w w' : World} {b p : Nat} {o : Int} {s : ByteArray} {a : Option Addr} {n c : Nat} {t : Tree} (h : FBox w b p o s a n c t) (hg : w.grownBy w' (some b)) : FBox w' b p o s a n c t :=
  ⟨h.ne, by rw [hg.block p (lt_of_block h.blk) (fun e => h.ne (by injection e))]; exact h.blk, FormAt.kept h.form hg⟩
theorem FBox.go {w w' : World} {b p : Nat} {o : Int} {s : ByteArray} {a : Option Addr} {n c : Nat} {t : Tree} (h : FBox w b p o s a n c t) (hb : Below w.heap.size w w') : FBox w' b p o s a n c t := h.kept (only_of_below hb _)

set_option maxRecDepth 100000 in
set_option maxHeartbeats 2000000 in
theorem laws_walk (v : Value) (zs : List Int) (w : World) (hz : IntsAt w w.heap.size v zs) (hsg : SignsAt w) : Calls Tryd.prog 8 #[v] w fun e w' => e = .returned (.bool true) ∧ Below w.heap.size w w' := by
  have HSG := hidIt hsg
  have HZ := hidIt hz
  clear hsg hz
  go_enter Tryd.func8, Tryd.ntmps8
  go_wp2_with fail
  refine (new_any v zs w.heap.size w HZ.out (Nat.le_refl _)).mono ?_
  rintro e w1 ⟨zs1, rfl, hs1, o1, hw1⟩
  have HS1 := hidIt hs1
  have HB1 : Hid (Below w.heap.size w w1) := by rw [hw1]; exact (Below.refl _ _).alloc (Nat.le_refl _) _
  have hsz1 : w.heap.size < w1.heap.size := hs1.lt
  clear hs1 hw1 HZ
  go_wp2_with fail
  refine (sform_any 4 (by omega) (by omega) 3 (by omega) _ _ zs1 0 w1 HS1.out).mono ?_
  rintro e w2 ⟨f, fo, fs, fa, fm, fc, q2, rfl, hf1, hf2, hf3, hs2, hg2⟩
  have HS2 := hidIt hs2
  have HG2 := hidIt hg2
  have HF2 := hidIt hf3
  have HFF := hidIt hf1
  have hsz2 : w1.heap.size ≤ w2.heap.size := hg2.size
  clear hf1 hf2 hf3 hs2 hg2 HS1
  go_wp2_with fail
  refine (sform_any 4 (by omega) (by omega) 3 (by omega) _ _ zs1 q2 w2 HS2.out).mono ?_
  rintro e w3 ⟨g, go, gs, ga, gm, gc, q3, rfl, hf1, hf2, hf3, hs3, hg3⟩
  have HS3 := hidIt hs3
  have HG3 := hidIt hg3
  have HH3 := hidIt hf3
  have HGG := hidIt hf1
  have hsz3 : w2.heap.size ≤ w3.heap.size := hg3.size
  clear hf1 hf2 hf3 hs3 hg3 HS2
  go_wp2_with fail
  have HFA : Hid (FormAt w3 (some w.heap.size) (.agg #[.int .i64 fo, .string fs, .slice fa fm fc]) f) := FormAt.kept (FormIn.mono HF2.out (fun i _ hi e => by injection e with e; omega)) HG3.out
  have HGA : Hid (FormAt w3 (some w.heap.size) (.agg #[.int .i64 go, .string gs, .slice ga gm gc]) g) := FormIn.mono HH3.out (fun i _ hi e => by injection e with e; omega)
  have hSn : ∀ i, w3.heap.size ≤ i → some w.heap.size ≠ some i := fun i hi e => by injection e with e; omega
  have hrow : isForms (fun i => some w.heap.size ≠ some i) [f] (.slice (some ⟨w3.heap.size + 1 + 1, 0, none⟩) 1 1) (((w3.alloc (.cells #[.int .i64 fo, .string fs, .slice fa fm fc] 24)).alloc (.cells #[.int .i64 go, .string gs, .slice ga gm gc] 24)).alloc (.cells #[.int .i64 fo, .string fs, .slice fa fm fc] 24)) := by
    have := isForms_one (w := (w3.alloc (.cells #[.int .i64 fo, .string fs, .slice fa fm fc] 24)).alloc (.cells #[.int .i64 go, .string gs, .slice ga gm gc] 24)) (hSn _ (by simp; omega)) ((FormAt.go HFA.out (Grows.alloc _ _)).go (Grows.alloc _ _))
    simpa using this
  refine (lnode_any _ 4 (i64_small (by omega) (by omega)) [f] _ _ hrow).mono ?_
  rintro e w4 ⟨na, nc, rfl, hn4, hb4⟩
  have hb4' : Below w3.heap.size w3 w4 := Below.trans ((((Below.refl _ _).alloc (Nat.le_refl _) _).alloc (by simp) _).alloc (by simp; omega) _) (hb4.mono (by simp; omega))
  have hsz4 : w3.heap.size + 3 ≤ w4.heap.size := by have := hb4.size; simp at this; omega
  have kf := blk_kept (blk_kept (blk_kept (heap_alloc_new w3 (.cells #[.int .i64 fo, .string fs, .slice fa fm fc] 24)) (Grows.alloc _ (.cells #[.int .i64 go, .string gs, .slice ga gm gc] 24))) (Grows.alloc _ (.cells #[.int .i64 fo, .string fs, .slice fa fm fc] 24))) hb4
  have kg := blk_kept (blk_kept (heap_alloc_at (w := w3.alloc (.cells #[.int .i64 fo, .string fs, .slice fa fm fc] 24)) (o := .cells #[.int .i64 go, .string gs, .slice ga gm gc] 24) (n := w3.heap.size + 1) (by simp)) (Grows.alloc _ (.cells #[.int .i64 fo, .string fs, .slice fa fm fc] 24))) hb4
  have HB4 := hidIt hb4'
  have HN4 := hidIt hn4
  have HKF := hidIt kf
  have HKG := hidIt kg
  have HSZ4 := hidIt hsz4
  go_wp2_with fail
  have hne3 : w3.heap.size ≠ w.heap.size := by omega
  have hne3' : w3.heap.size + 1 ≠ w.heap.size := by omega
  have hne4 : w4.heap.size ≠ w.heap.size := by omega
  have HXF : Hid (FBox (w4.alloc (.cells #[.int .i64 4, .string ⟨#[]⟩, .slice na [f].length nc] 24)) w.heap.size w3.heap.size fo fs fa fm fc f) := FBox.go ⟨hne3, kf, FormIn.go HFA.out HB4.out⟩ (Grows.alloc _ _)
  have HXG : Hid (FBox (w4.alloc (.cells #[.int .i64 4, .string ⟨#[]⟩, .slice na [f].length nc] 24)) w.heap.size (w3.heap.size + 1) go gs ga gm gc g) := FBox.go ⟨hne3', kg, FormIn.go HGA.out HB4.out⟩ (Grows.alloc _ _)
  have HXN : Hid (FBox (w4.alloc (.cells #[.int .i64 4, .string ⟨#[]⟩, .slice na [f].length nc] 24)) w.heap.size w4.heap.size 4 ⟨#[]⟩ na [f].length nc (.node 4 ⟨#[]⟩ [f])) := ⟨hne4, heap_alloc_new w4 _, FormIn.go HN4.out (Grows.alloc _ _)⟩
  have HS4 : Hid (SrcAt (w4.alloc (.cells #[.int .i64 4, .string ⟨#[]⟩, .slice na [f].length nc] 24)) w.heap.size w.heap.size zs1 q3) := (HS3.out.grow (only_of_below HB4.out none)).alloc _
  have HBL : Hid (Below w.heap.size w (w4.alloc (.cells #[.int .i64 4, .string ⟨#[]⟩, .slice na [f].length nc] 24))) := below_of_only (b := w.heap.size) (only_alloc (only_trans (only_trans (only_trans (only_of_below HB1.out _) HG2.out) HG3.out) (only_of_below HB4.out _)) _) (Nat.le_refl _)
  have hf4 := ev4 (wellF_gen HFF.out)
  have HWF := hidIt (wellF_gen HFF.out)
  have HWG := hidIt (wellF_gen HGG.out)
  have hlist : ([f] : List Tree).length = 1 := rfl
  rw [hlist] at HXF HXG HXN HS4 HBL
  generalize (w4.alloc (.cells #[.int .i64 4, .string ⟨#[]⟩, .slice na 1 nc] 24)) = w5 at *
  generalize w4.heap.size = pn at *
  generalize w3.heap.size = pf at *
  clear kf kg hb4 hb4' hn4 hrow hSn HB4 HN4 HKF HKG HSZ4 hsz4 HFA HGA HS3 HG3 HH3 HFF HGG HG2 HF2 HB1 hsz1 hsz2 hsz3 hf4
  go_wp2_with fail
  go_loopw [7] (fun i wr => ∃ k q : Nat, k ≤ 4 ∧ i = .int .i64 k ∧ Hid (FBox wr w.heap.size pf fo fs fa fm fc f) ∧ Hid (FBox wr w.heap.size (pf + 1) go gs ga gm gc g) ∧ Hid (FBox wr w.heap.size pn 4 ⟨#[]⟩ na 1 nc (.node 4 ⟨#[]⟩ [f])) ∧ Hid (SrcAt wr w.heap.size w.heap.size zs1 q) ∧ Hid (Below w.heap.size w wr)) (fun i _ => 4 - (intOf i).toNat)
  case atStart => exact ⟨0, q3, by omega, rfl, HXF, HXG, HXN, HS4, HBL⟩
  case round =>
    clear HXF HXG HXN HS4 HBL
    obtain ⟨k, q, hk, rfl, hxf, hxg, hxn, hsrc, hbel⟩ := hrel
    by_cases hlt : k < 4
    · go_wp2_with fail
      refine (yes_any 4 (by omega) w.heap.size w.heap.size zs1 q _ hsrc.out).mono ?_
      rintro e w6 ⟨yv, l, q6, rfl, hown, hlen, hlet, hs6, hg6⟩
      obtain ⟨ya, yc, rfl, -, -, hyes⟩ := hown.form
      have HY := hidIt (StrsIn.mono (S' := fun _ => True) hyes (fun _ _ _ => trivial))
      have HS6 := hidIt hs6
      have HXF := hidIt (hxf.out.kept hg6)
      have HXG := hidIt (hxg.out.kept hg6)
      have HXN := hidIt (hxn.out.kept hg6)
      have HB6 := hidIt (below_of_only (b := w.heap.size) (only_trans (only_of_below hbel.out _) hg6) (Nat.le_refl _))
      have hlen' : l.length ≤ 1000000 := by omega
      clear hown hlet hs6 hg6 hyes hxf hxg hxn hsrc hbel hlen
      go_wp2_with fail
      obtain ⟨c0, c1, c2⟩ := cell_of3 HXF.out.blk
      obtain ⟨d0, d1, d2⟩ := cell_of3 HXG.out.blk
      obtain ⟨n0, n1, n2⟩ := cell_of3 HXN.out.blk
      have KF0 := ext_cell c0
      have KF1 := ext_cell c1
      have KF2 := ext_cell c2
      have KG0 := ext_cell d0
      have KG1 := ext_cell d1
      have KG2 := ext_cell d2
      have KN0 := ext_cell n0
      have KN1 := ext_cell n1
      have KN2 := ext_cell n2
      obtain ⟨a, ha⟩ : ∃ a, evalB f l = a := ⟨_, rfl⟩
      obtain ⟨b, hb⟩ : ∃ b, evalB g l = b := ⟨_, rfl⟩
      have HA := hidIt ha
      have HB := hidIt hb
      have E0 : Hid (evalB (.node 4 ⟨#[]⟩ [f]) l = !a) := by show _ = _; rw [(ev4 HWF.out).2, HA.out]
      have E1 : Hid (evalB (.node 4 ⟨#[]⟩ [(.node 4 ⟨#[]⟩ [f])]) l = a) := by show _ = _; rw [(ev4 (ev4 HWF.out).1).2, E0.out, Bool.not_not]
      have E5 : Hid (evalB (.node 5 ⟨#[]⟩ [f, g]) l = (a && b)) := by show _ = _; rw [(ev5 HWF.out HWG.out).2, HA.out, HB.out]
      have E6 : Hid (evalB (.node 6 ⟨#[]⟩ [f, g]) l = (a || b)) := by show _ = _; rw [(ev6 HWF.out HWG.out).2, HA.out, HB.out]
      have E7 : Hid (evalB (.node 7 ⟨#[]⟩ [f, g]) l = (!a || b)) := by show _ = _; rw [(ev7 HWF.out HWG.out).2, HA.out, HB.out]
      have E8 : Hid (evalB (.node 8 ⟨#[]⟩ [f, g]) l = (a == b)) := by show _ = _; rw [(ev8 HWF.out HWG.out).2, HA.out, HB.out]
      have E9 : Hid (evalB (.node 6 ⟨#[]⟩ [(.node 4 ⟨#[]⟩ [f]), g]) l = (!a || b)) := by show _ = _; rw [(ev6 (ev4 HWF.out).1 HWG.out).2, E0.out, HB.out]
      have E10 : Hid (evalB (.node 4 ⟨#[]⟩ [(.node 5 ⟨#[]⟩ [f, g])]) l = !(a && b)) := by show _ = _; rw [(ev4 (ev5 HWF.out HWG.out).1).2, E5.out]
      have E11 : Hid (evalB (.node 6 ⟨#[]⟩ [(.node 4 ⟨#[]⟩ [f]), (.node 4 ⟨#[]⟩ [g])]) l = (!a || !b)) := by show _ = _; rw [(ev6 (ev4 HWF.out).1 (ev4 HWG.out).1).2, E0.out, (ev4 HWG.out).2, HB.out]
      clear ha hb c0 c1 c2 d0 d1 d2 n0 n1 n2
      cases a <;> cases b
      · refine wp_region_rel (Ext w6) Grows (relTab [(28, isB false), (31, isB false)]) (by kernel_rfl) (by kernel_rfl) (by kernel_rfl) (stable_cons (isB_up _) (stable_cons (isB_up _) (stable_nil _))) (Ext.start w6) ?_
        repeat (
          refine' walkR_plain (by kernel_rfl) rfl rfl (fun wx hC hL => ?_) ?_
          rotate_left
          · (go_simp; exact ⟨rfl, rfl⟩)
          simp only [Act.put, List.setIfInBounds_toArray, List.set_cons_zero, List.set_cons_succ])
        refine walkR_rel (by kernel_rfl) rfl rfl (of_decide_eq_true (by kernel_rfl)) (fun wx hC hL => ?_) (fun v hv => ?_)
        · go_simp
          exact rel_eval hC (hC.form HXF.out.form.free) hlen' HY.out HA.out
        obtain ⟨_, _, rfl⟩ := hv
        simp only [Act.put, List.setIfInBounds_toArray, List.set_cons_zero, List.set_cons_succ]
        repeat (
          refine' walkR_plain (by kernel_rfl) rfl rfl (fun wx hC hL => ?_) ?_
          rotate_left
          · (go_simp; exact ⟨rfl, rfl⟩)
          simp only [Act.put, List.setIfInBounds_toArray, List.set_cons_zero, List.set_cons_succ])
        refine walkR_rel (by kernel_rfl) rfl rfl (of_decide_eq_true (by kernel_rfl)) (fun wx hC hL => ?_) (fun v hv => ?_)
        · go_simp
          exact rel_eval hC (hC.form HXG.out.form.free) hlen' HY.out HB.out
        obtain ⟨_, _, rfl⟩ := hv
        simp only [Act.put, List.setIfInBounds_toArray, List.set_cons_zero, List.set_cons_succ]
        repeat (
          refine' walkR_plain (by kernel_rfl) rfl rfl (fun wx hC hL => ?_) ?_
          rotate_left
          · (go_simp; exact ⟨rfl, rfl⟩)
          simp only [Act.put, List.setIfInBounds_toArray, List.set_cons_zero, List.set_cons_succ])
        refine fun w7 hE7 _ => ?_
        go_wp2_with fail
        refine (rel_eval hE7 (Ext.form hE7 HXN.out.form.free) hlen' HY.out E0.out).mono ?_
        rintro e wa1 ⟨_, rfl, hEa1, -, hv⟩
        obtain rfl := hv
        clear hE7
        go_wp2_with fail
        refine (rel_node (Ext.grown hEa1 (Grows.alloc _ _)) (i64_small (by omega) (by omega)) (isForms_one (anyS_all _) (Ext.form hEa1 HXN.out.form.free))).mono ?_
        rintro e wa2 ⟨_, rfl, hEa2, -, hv⟩
        obtain ⟨_, _, _, _, rfl, -⟩ := FormIn.form hv
        have HVa2 := hidIt hv
        clear hv hEa1
        go_wp2_with fail
        refine (rel_eval hEa2 (HVa2.out) hlen' HY.out E1.out).mono ?_
        rintro e wa3 ⟨_, rfl, hEa3, -, hv⟩
        obtain rfl := hv
        clear hEa2
        go_wp2_with fail
        refine (rel_node (Ext.grown hEa3 (Grows.alloc _ _)) (i64_small (by omega) (by omega)) (isForms_two (anyS_all _) (Ext.form hEa3 HXF.out.form.free) (Ext.form hEa3 HXG.out.form.free))).mono ?_
        rintro e wa4 ⟨_, rfl, hEa4, -, hv⟩
        obtain ⟨_, _, _, _, rfl, -⟩ := FormIn.form hv
        have HVa4 := hidIt hv
        clear hv hEa3
        go_wp2_with fail
        refine (rel_eval hEa4 (HVa4.out) hlen' HY.out E5.out).mono ?_
        rintro e wa5 ⟨_, rfl, hEa5, -, hv⟩
        obtain rfl := hv
        clear hEa4
        go_wp2_with fail
        refine (rel_node (Ext.grown hEa5 (Grows.alloc _ _)) (i64_small (by omega) (by omega)) (isForms_two (anyS_all _) (Ext.form hEa5 HXF.out.form.free) (Ext.form hEa5 HXG.out.form.free))).mono ?_
        rintro e wa6 ⟨_, rfl, hEa6, -, hv⟩
        obtain ⟨_, _, _, _, rfl, -⟩ := FormIn.form hv
        have HVa6 := hidIt hv
        clear hv hEa5
        go_wp2_with fail
        refine (rel_eval hEa6 (HVa6.out) hlen' HY.out E6.out).mono ?_
        rintro e w8 ⟨_, rfl, hE8, -, hv⟩
        obtain rfl := hv
        clear hEa6
        go_wp2_with fail
        refine wp_region_rel (Ext w6) Grows (relTab [(74, isForms anyS [f, g]), (75, isForm anyS (.node 7 ⟨#[]⟩ [f, g])), (77, isB true), (80, isForms anyS [(.node 4 ⟨#[]⟩ [f]), g]), (81, isForm anyS (.node 6 ⟨#[]⟩ [(.node 4 ⟨#[]⟩ [f]), g])), (83, isB true), (88, isForms anyS [f, g]), (89, isForm anyS (.node 8 ⟨#[]⟩ [f, g])), (91, isB true), (100, isForms anyS [f, g]), (101, isForm anyS (.node 5 ⟨#[]⟩ [f, g])), (102, isForms anyS [(.node 5 ⟨#[]⟩ [f, g])]), (103, isForm anyS (.node 4 ⟨#[]⟩ [(.node 5 ⟨#[]⟩ [f, g])])), (105, isB true), (108, isForms anyS [g]), (109, isForm anyS (.node 4 ⟨#[]⟩ [g])), (110, isForms anyS [(.node 4 ⟨#[]⟩ [f]), (.node 4 ⟨#[]⟩ [g])]), (111, isForm anyS (.node 6 ⟨#[]⟩ [(.node 4 ⟨#[]⟩ [f]), (.node 4 ⟨#[]⟩ [g])])), (113, isB true)]) (by kernel_rfl) (by kernel_rfl) (by kernel_rfl) (stable_cons (isForms_up _ _) (stable_cons (isForm_up _ _) (stable_cons (isB_up _) (stable_cons (isForms_up _ _) (stable_cons (isForm_up _ _) (stable_cons (isB_up _) (stable_cons (isForms_up _ _) (stable_cons (isForm_up _ _) (stable_cons (isB_up _) (stable_cons (isForms_up _ _) (stable_cons (isForm_up _ _) (stable_cons (isForms_up _ _) (stable_cons (isForm_up _ _) (stable_cons (isB_up _) (stable_cons (isForms_up _ _) (stable_cons (isForm_up _ _) (stable_cons (isForms_up _ _) (stable_cons (isForm_up _ _) (stable_cons (isB_up _) (stable_nil _)))))))))))))))))))) (Below.drew hE8) ?_
        repeat (
          refine' walkR_plain (by kernel_rfl) rfl rfl (fun wx hC hL => ?_) ?_
          rotate_left
          · (go_simp; exact ⟨rfl, rfl⟩)
          simp only [Act.put, List.setIfInBounds_toArray, List.set_cons_zero, List.set_cons_succ])
        refine walkR_rel (by kernel_rfl) rfl rfl (of_decide_eq_true (by kernel_rfl)) (fun wx hC hL => ?_) (fun v hv => ?_)
        · go_simp
          exact ⟨hC.grown (Grows.alloc _ _), Grows.alloc _ _, isForms_two (anyS_all _) (hC.form HXF.out.form.free) (hC.form HXG.out.form.free)⟩
        obtain ⟨_, _, _, _, rfl, -⟩ := hv
        simp only [Act.put, List.setIfInBounds_toArray, List.set_cons_zero, List.set_cons_succ, List.length_cons, List.length_nil, Nat.zero_add, Nat.reduceAdd]
        refine walkR_rel (by kernel_rfl) rfl rfl (of_decide_eq_true (by kernel_rfl)) (fun wx hC hL => ?_) (fun v hv => ?_)
        · go_simp
          exact rel_node hC (i64_small (by omega) (by omega)) (hL.get 74 (.inl rfl) (by kernel_rfl) rfl rfl)
        obtain ⟨_, _, hv⟩ := hv
        obtain ⟨_, _, _, _, rfl, -⟩ := FormIn.form hv
        clear hv
        simp only [Act.put, List.setIfInBounds_toArray, List.set_cons_zero, List.set_cons_succ, Tree.op_node, Tree.name_node, Tree.args_node, List.length_cons, List.length_nil, Nat.zero_add, Nat.reduceAdd]
        repeat (
          refine' walkR_plain (by kernel_rfl) rfl rfl (fun wx hC hL => ?_) ?_
          rotate_left
          · (go_simp; exact ⟨rfl, rfl⟩)
          simp only [Act.put, List.setIfInBounds_toArray, List.set_cons_zero, List.set_cons_succ])
        refine walkR_rel (by kernel_rfl) rfl rfl (of_decide_eq_true (by kernel_rfl)) (fun wx hC hL => ?_) (fun v hv => ?_)
        · go_simp
          exact rel_eval hC (hL.get 75 (.inl rfl) (by kernel_rfl) rfl rfl) hlen' HY.out E7.out
        obtain ⟨_, _, rfl⟩ := hv
        simp only [Act.put, List.setIfInBounds_toArray, List.set_cons_zero, List.set_cons_succ]
        repeat (
          refine' walkR_plain (by kernel_rfl) rfl rfl (fun wx hC hL => ?_) ?_
          rotate_left
          · (go_simp; exact ⟨rfl, rfl⟩)
          simp only [Act.put, List.setIfInBounds_toArray, List.set_cons_zero, List.set_cons_succ])
        refine walkR_rel (by kernel_rfl) rfl rfl (of_decide_eq_true (by kernel_rfl)) (fun wx hC hL => ?_) (fun v hv => ?_)
        · go_simp
          exact ⟨hC.grown (Grows.alloc _ _), Grows.alloc _ _, isForms_two (anyS_all _) (hC.form HXN.out.form.free) (hC.form HXG.out.form.free)⟩
        obtain ⟨_, _, _, _, rfl, -⟩ := hv
        simp only [Act.put, List.setIfInBounds_toArray, List.set_cons_zero, List.set_cons_succ, List.length_cons, List.length_nil, Nat.zero_add, Nat.reduceAdd]
        refine walkR_rel (by kernel_rfl) rfl rfl (of_decide_eq_true (by kernel_rfl)) (fun wx hC hL => ?_) (fun v hv => ?_)
        · go_simp
          exact rel_node hC (i64_small (by omega) (by omega)) (hL.get 80 (.inl rfl) (by kernel_rfl) rfl rfl)
        obtain ⟨_, _, hv⟩ := hv
        obtain ⟨_, _, _, _, rfl, -⟩ := FormIn.form hv
        clear hv
        simp only [Act.put, List.setIfInBounds_toArray, List.set_cons_zero, List.set_cons_succ, Tree.op_node, Tree.name_node, Tree.args_node, List.length_cons, List.length_nil, Nat.zero_add, Nat.reduceAdd]
        repeat (
          refine' walkR_plain (by kernel_rfl) rfl rfl (fun wx hC hL => ?_) ?_
          rotate_left
          · (go_simp; exact ⟨rfl, rfl⟩)
          simp only [Act.put, List.setIfInBounds_toArray, List.set_cons_zero, List.set_cons_succ])
        refine walkR_rel (by kernel_rfl) rfl rfl (of_decide_eq_true (by kernel_rfl)) (fun wx hC hL => ?_) (fun v hv => ?_)
        · go_simp
          exact rel_eval hC (hL.get 81 (.inl rfl) (by kernel_rfl) rfl rfl) hlen' HY.out E9.out
        obtain ⟨_, _, rfl⟩ := hv
        simp only [Act.put, List.setIfInBounds_toArray, List.set_cons_zero, List.set_cons_succ]
        repeat (
          refine' walkR_plain (by kernel_rfl) rfl rfl (fun wx hC hL => ?_) ?_
          rotate_left
          · (go_simp; exact ⟨rfl, rfl⟩)
          simp only [Act.put, List.setIfInBounds_toArray, List.set_cons_zero, List.set_cons_succ])
        refine walkR_rel (by kernel_rfl) rfl rfl (of_decide_eq_true (by kernel_rfl)) (fun wx hC hL => ?_) (fun v hv => ?_)
        · go_simp
          exact ⟨hC.grown (Grows.alloc _ _), Grows.alloc _ _, isForms_two (anyS_all _) (hC.form HXF.out.form.free) (hC.form HXG.out.form.free)⟩
        obtain ⟨_, _, _, _, rfl, -⟩ := hv
        simp only [Act.put, List.setIfInBounds_toArray, List.set_cons_zero, List.set_cons_succ, List.length_cons, List.length_nil, Nat.zero_add, Nat.reduceAdd]
        refine walkR_rel (by kernel_rfl) rfl rfl (of_decide_eq_true (by kernel_rfl)) (fun wx hC hL => ?_) (fun v hv => ?_)
        · go_simp
          exact rel_node hC (i64_small (by omega) (by omega)) (hL.get 88 (.inl rfl) (by kernel_rfl) rfl rfl)
        obtain ⟨_, _, hv⟩ := hv
        obtain ⟨_, _, _, _, rfl, -⟩ := FormIn.form hv
        clear hv
        simp only [Act.put, List.setIfInBounds_toArray, List.set_cons_zero, List.set_cons_succ, Tree.op_node, Tree.name_node, Tree.args_node, List.length_cons, List.length_nil, Nat.zero_add, Nat.reduceAdd]
        repeat (
          refine' walkR_plain (by kernel_rfl) rfl rfl (fun wx hC hL => ?_) ?_
          rotate_left
          · (go_simp; exact ⟨rfl, rfl⟩)
          simp only [Act.put, List.setIfInBounds_toArray, List.set_cons_zero, List.set_cons_succ])
        refine walkR_rel (by kernel_rfl) rfl rfl (of_decide_eq_true (by kernel_rfl)) (fun wx hC hL => ?_) (fun v hv => ?_)
        · go_simp
          exact rel_eval hC (hL.get 89 (.inl rfl) (by kernel_rfl) rfl rfl) hlen' HY.out E8.out
        obtain ⟨_, _, rfl⟩ := hv
        simp only [Act.put, List.setIfInBounds_toArray, List.set_cons_zero, List.set_cons_succ]
        repeat (
          refine' walkR_plain (by kernel_rfl) rfl rfl (fun wx hC hL => ?_) ?_
          rotate_left
          · (go_simp; exact ⟨rfl, rfl⟩)
          simp only [Act.put, List.setIfInBounds_toArray, List.set_cons_zero, List.set_cons_succ])
        refine walkR_rel (by kernel_rfl) rfl rfl (of_decide_eq_true (by kernel_rfl)) (fun wx hC hL => ?_) (fun v hv => ?_)
        · go_simp
          exact ⟨hC.grown (Grows.alloc _ _), Grows.alloc _ _, isForms_two (anyS_all _) (hC.form HXF.out.form.free) (hC.form HXG.out.form.free)⟩
        obtain ⟨_, _, _, _, rfl, -⟩ := hv
        simp only [Act.put, List.setIfInBounds_toArray, List.set_cons_zero, List.set_cons_succ, List.length_cons, List.length_nil, Nat.zero_add, Nat.reduceAdd]
        refine walkR_rel (by kernel_rfl) rfl rfl (of_decide_eq_true (by kernel_rfl)) (fun wx hC hL => ?_) (fun v hv => ?_)
        · go_simp
          exact rel_node hC (i64_small (by omega) (by omega)) (hL.get 100 (.inl rfl) (by kernel_rfl) rfl rfl)
        obtain ⟨_, _, hv⟩ := hv
        obtain ⟨_, _, _, _, rfl, -⟩ := FormIn.form hv
        clear hv
        simp only [Act.put, List.setIfInBounds_toArray, List.set_cons_zero, List.set_cons_succ, Tree.op_node, Tree.name_node, Tree.args_node, List.length_cons, List.length_nil, Nat.zero_add, Nat.reduceAdd]
        refine walkR_rel (by kernel_rfl) rfl rfl (of_decide_eq_true (by kernel_rfl)) (fun wx hC hL => ?_) (fun v hv => ?_)
        · go_simp
          exact ⟨hC.grown (Grows.alloc _ _), Grows.alloc _ _, isForms_one (anyS_all _) (hL.get 101 (.inl rfl) (by kernel_rfl) rfl rfl)⟩
        obtain ⟨_, _, _, _, rfl, -⟩ := hv
        simp only [Act.put, List.setIfInBounds_toArray, List.set_cons_zero, List.set_cons_succ, List.length_cons, List.length_nil, Nat.zero_add]
        refine walkR_rel (by kernel_rfl) rfl rfl (of_decide_eq_true (by kernel_rfl)) (fun wx hC hL => ?_) (fun v hv => ?_)
        · go_simp
          exact rel_node hC (i64_small (by omega) (by omega)) (hL.get 102 (.inl rfl) (by kernel_rfl) rfl rfl)
        obtain ⟨_, _, hv⟩ := hv
        obtain ⟨_, _, _, _, rfl, -⟩ := FormIn.form hv
        clear hv
        simp only [Act.put, List.setIfInBounds_toArray, List.set_cons_zero, List.set_cons_succ, Tree.op_node, Tree.name_node, Tree.args_node, List.length_cons, List.length_nil, Nat.zero_add]
        repeat (
          refine' walkR_plain (by kernel_rfl) rfl rfl (fun wx hC hL => ?_) ?_
          rotate_left
          · (go_simp; exact ⟨rfl, rfl⟩)
          simp only [Act.put, List.setIfInBounds_toArray, List.set_cons_zero, List.set_cons_succ])
        refine walkR_rel (by kernel_rfl) rfl rfl (of_decide_eq_true (by kernel_rfl)) (fun wx hC hL => ?_) (fun v hv => ?_)
        · go_simp
          exact rel_eval hC (hL.get 103 (.inl rfl) (by kernel_rfl) rfl rfl) hlen' HY.out E10.out
        obtain ⟨_, _, rfl⟩ := hv
        simp only [Act.put, List.setIfInBounds_toArray, List.set_cons_zero, List.set_cons_succ]
        repeat (
          refine' walkR_plain (by kernel_rfl) rfl rfl (fun wx hC hL => ?_) ?_
          rotate_left
          · (go_simp; exact ⟨rfl, rfl⟩)
          simp only [Act.put, List.setIfInBounds_toArray, List.set_cons_zero, List.set_cons_succ])
        refine walkR_rel (by kernel_rfl) rfl rfl (of_decide_eq_true (by kernel_rfl)) (fun wx hC hL => ?_) (fun v hv => ?_)
        · go_simp
          exact ⟨hC.grown (Grows.alloc _ _), Grows.alloc _ _, isForms_one (anyS_all _) (hC.form HXG.out.form.free)⟩
        obtain ⟨_, _, _, _, rfl, -⟩ := hv
        simp only [Act.put, List.setIfInBounds_toArray, List.set_cons_zero, List.set_cons_succ, List.length_cons, List.length_nil, Nat.zero_add]
        refine walkR_rel (by kernel_rfl) rfl rfl (of_decide_eq_true (by kernel_rfl)) (fun wx hC hL => ?_) (fun v hv => ?_)
        · go_simp
          exact rel_node hC (i64_small (by omega) (by omega)) (hL.get 108 (.inl rfl) (by kernel_rfl) rfl rfl)
        obtain ⟨_, _, hv⟩ := hv
        obtain ⟨_, _, _, _, rfl, -⟩ := FormIn.form hv
        clear hv
        simp only [Act.put, List.setIfInBounds_toArray, List.set_cons_zero, List.set_cons_succ, Tree.op_node, Tree.name_node, Tree.args_node, List.length_cons, List.length_nil, Nat.zero_add]
        refine walkR_rel (by kernel_rfl) rfl rfl (of_decide_eq_true (by kernel_rfl)) (fun wx hC hL => ?_) (fun v hv => ?_)
        · go_simp
          exact ⟨hC.grown (Grows.alloc _ _), Grows.alloc _ _, isForms_two (anyS_all _) (hC.form HXN.out.form.free) (hL.get 109 (.inl rfl) (by kernel_rfl) rfl rfl)⟩
        obtain ⟨_, _, _, _, rfl, -⟩ := hv
        simp only [Act.put, List.setIfInBounds_toArray, List.set_cons_zero, List.set_cons_succ, List.length_cons, List.length_nil, Nat.zero_add, Nat.reduceAdd]
        refine walkR_rel (by kernel_rfl) rfl rfl (of_decide_eq_true (by kernel_rfl)) (fun wx hC hL => ?_) (fun v hv => ?_)
        · go_simp
          exact rel_node hC (i64_small (by omega) (by omega)) (hL.get 110 (.inl rfl) (by kernel_rfl) rfl rfl)
        obtain ⟨_, _, hv⟩ := hv
        obtain ⟨_, _, _, _, rfl, -⟩ := FormIn.form hv
        clear hv
        simp only [Act.put, List.setIfInBounds_toArray, List.set_cons_zero, List.set_cons_succ, Tree.op_node, Tree.name_node, Tree.args_node, List.length_cons, List.length_nil, Nat.zero_add, Nat.reduceAdd]
        repeat (
          refine' walkR_plain (by kernel_rfl) rfl rfl (fun wx hC hL => ?_) ?_
          rotate_left
          · (go_simp; exact ⟨rfl, rfl⟩)
          simp only [Act.put, List.setIfInBounds_toArray, List.set_cons_zero, List.set_cons_succ])
        refine walkR_rel (by kernel_rfl) rfl rfl (of_decide_eq_true (by kernel_rfl)) (fun wx hC hL => ?_) (fun v hv => ?_)
        · go_simp
          exact rel_eval hC (hL.get 111 (.inl rfl) (by kernel_rfl) rfl rfl) hlen' HY.out E11.out
        obtain ⟨_, _, rfl⟩ := hv
        simp only [Act.put, List.setIfInBounds_toArray, List.set_cons_zero, List.set_cons_succ]
        repeat (
          refine' walkR_plain (by kernel_rfl) rfl rfl (fun wx hC hL => ?_) ?_
          rotate_left
          · (go_simp; exact ⟨rfl, rfl⟩)
          simp only [Act.put, List.setIfInBounds_toArray, List.set_cons_zero, List.set_cons_succ])
        refine fun w9 hE9 _ => ?_
        go_wp2_with fail
        go_roundw
        case rel => exact ⟨k + 1, q6, by omega, by go_num, HXF.out.go hE9, HXG.out.go hE9, HXN.out.go hE9, HS6.out.grow (only_of_below hE9 none), HB6.out.trans (Below.mono hE9 HB6.out.size)⟩
        case measure => simp [intOf]; omega
      · refine wp_region_rel (Ext w6) Grows (relTab [(28, isB false), (31, isB true)]) (by kernel_rfl) (by kernel_rfl) (by kernel_rfl) (stable_cons (isB_up _) (stable_cons (isB_up _) (stable_nil _))) (Ext.start w6) ?_
        repeat (
          refine' walkR_plain (by kernel_rfl) rfl rfl (fun wx hC hL => ?_) ?_
          rotate_left
          · (go_simp; exact ⟨rfl, rfl⟩)
          simp only [Act.put, List.setIfInBounds_toArray, List.set_cons_zero, List.set_cons_succ])
        refine walkR_rel (by kernel_rfl) rfl rfl (of_decide_eq_true (by kernel_rfl)) (fun wx hC hL => ?_) (fun v hv => ?_)
        · go_simp
          exact rel_eval hC (hC.form HXF.out.form.free) hlen' HY.out HA.out
        obtain ⟨_, _, rfl⟩ := hv
        simp only [Act.put, List.setIfInBounds_toArray, List.set_cons_zero, List.set_cons_succ]
        repeat (
          refine' walkR_plain (by kernel_rfl) rfl rfl (fun wx hC hL => ?_) ?_
          rotate_left
          · (go_simp; exact ⟨rfl, rfl⟩)
          simp only [Act.put, List.setIfInBounds_toArray, List.set_cons_zero, List.set_cons_succ])
        refine walkR_rel (by kernel_rfl) rfl rfl (of_decide_eq_true (by kernel_rfl)) (fun wx hC hL => ?_) (fun v hv => ?_)
        · go_simp
          exact rel_eval hC (hC.form HXG.out.form.free) hlen' HY.out HB.out
        obtain ⟨_, _, rfl⟩ := hv
        simp only [Act.put, List.setIfInBounds_toArray, List.set_cons_zero, List.set_cons_succ]
        repeat (
          refine' walkR_plain (by kernel_rfl) rfl rfl (fun wx hC hL => ?_) ?_
          rotate_left
          · (go_simp; exact ⟨rfl, rfl⟩)
          simp only [Act.put, List.setIfInBounds_toArray, List.set_cons_zero, List.set_cons_succ])
        refine fun w7 hE7 _ => ?_
        go_wp2_with fail
        refine (rel_eval hE7 (Ext.form hE7 HXN.out.form.free) hlen' HY.out E0.out).mono ?_
        rintro e wa1 ⟨_, rfl, hEa1, -, hv⟩
        obtain rfl := hv
        clear hE7
        go_wp2_with fail
        refine (rel_node (Ext.grown hEa1 (Grows.alloc _ _)) (i64_small (by omega) (by omega)) (isForms_one (anyS_all _) (Ext.form hEa1 HXN.out.form.free))).mono ?_
        rintro e wa2 ⟨_, rfl, hEa2, -, hv⟩
        obtain ⟨_, _, _, _, rfl, -⟩ := FormIn.form hv
        have HVa2 := hidIt hv
        clear hv hEa1
        go_wp2_with fail
        refine (rel_eval hEa2 (HVa2.out) hlen' HY.out E1.out).mono ?_
        rintro e wa3 ⟨_, rfl, hEa3, -, hv⟩
        obtain rfl := hv
        clear hEa2
        go_wp2_with fail
        refine (rel_node (Ext.grown hEa3 (Grows.alloc _ _)) (i64_small (by omega) (by omega)) (isForms_two (anyS_all _) (Ext.form hEa3 HXF.out.form.free) (Ext.form hEa3 HXG.out.form.free))).mono ?_
        rintro e wa4 ⟨_, rfl, hEa4, -, hv⟩
        obtain ⟨_, _, _, _, rfl, -⟩ := FormIn.form hv
        have HVa4 := hidIt hv
        clear hv hEa3
        go_wp2_with fail
        refine (rel_eval hEa4 (HVa4.out) hlen' HY.out E5.out).mono ?_
        rintro e wa5 ⟨_, rfl, hEa5, -, hv⟩
        obtain rfl := hv
        clear hEa4
        go_wp2_with fail
        refine (rel_node (Ext.grown hEa5 (Grows.alloc _ _)) (i64_small (by omega) (by omega)) (isForms_two (anyS_all _) (Ext.form hEa5 HXF.out.form.free) (Ext.form hEa5 HXG.out.form.free))).mono ?_
        rintro e wa6 ⟨_, rfl, hEa6, -, hv⟩
        obtain ⟨_, _, _, _, rfl, -⟩ := FormIn.form hv
        have HVa6 := hidIt hv
        clear hv hEa5
        go_wp2_with fail
        refine (rel_eval hEa6 (HVa6.out) hlen' HY.out E6.out).mono ?_
        rintro e w8 ⟨_, rfl, hE8, -, hv⟩
        obtain rfl := hv
        clear hEa6
        go_wp2_with fail
        refine wp_region_rel (Ext w6) Grows (relTab [(74, isForms anyS [f, g]), (75, isForm anyS (.node 7 ⟨#[]⟩ [f, g])), (77, isB true), (80, isForms anyS [(.node 4 ⟨#[]⟩ [f]), g]), (81, isForm anyS (.node 6 ⟨#[]⟩ [(.node 4 ⟨#[]⟩ [f]), g])), (83, isB true), (88, isForms anyS [f, g]), (89, isForm anyS (.node 8 ⟨#[]⟩ [f, g])), (91, isB false), (100, isForms anyS [f, g]), (101, isForm anyS (.node 5 ⟨#[]⟩ [f, g])), (102, isForms anyS [(.node 5 ⟨#[]⟩ [f, g])]), (103, isForm anyS (.node 4 ⟨#[]⟩ [(.node 5 ⟨#[]⟩ [f, g])])), (105, isB true), (108, isForms anyS [g]), (109, isForm anyS (.node 4 ⟨#[]⟩ [g])), (110, isForms anyS [(.node 4 ⟨#[]⟩ [f]), (.node 4 ⟨#[]⟩ [g])]), (111, isForm anyS (.node 6 ⟨#[]⟩ [(.node 4 ⟨#[]⟩ [f]), (.node 4 ⟨#[]⟩ [g])])), (113, isB true)]) (by kernel_rfl) (by kernel_rfl) (by kernel_rfl) (stable_cons (isForms_up _ _) (stable_cons (isForm_up _ _) (stable_cons (isB_up _) (stable_cons (isForms_up _ _) (stable_cons (isForm_up _ _) (stable_cons (isB_up _) (stable_cons (isForms_up _ _) (stable_cons (isForm_up _ _) (stable_cons (isB_up _) (stable_cons (isForms_up _ _) (stable_cons (isForm_up _ _) (stable_cons (isForms_up _ _) (stable_cons (isForm_up _ _) (stable_cons (isB_up _) (stable_cons (isForms_up _ _) (stable_cons (isForm_up _ _) (stable_cons (isForms_up _ _) (stable_cons (isForm_up _ _) (stable_cons (isB_up _) (stable_nil _)))))))))))))))))))) (Below.drew hE8) ?_
        repeat (
          refine' walkR_plain (by kernel_rfl) rfl rfl (fun wx hC hL => ?_) ?_
          rotate_left
          · (go_simp; exact ⟨rfl, rfl⟩)
          simp only [Act.put, List.setIfInBounds_toArray, List.set_cons_zero, List.set_cons_succ])
        refine walkR_rel (by kernel_rfl) rfl rfl (of_decide_eq_true (by kernel_rfl)) (fun wx hC hL => ?_) (fun v hv => ?_)
        · go_simp
          exact ⟨hC.grown (Grows.alloc _ _), Grows.alloc _ _, isForms_two (anyS_all _) (hC.form HXF.out.form.free) (hC.form HXG.out.form.free)⟩
        obtain ⟨_, _, _, _, rfl, -⟩ := hv
        simp only [Act.put, List.setIfInBounds_toArray, List.set_cons_zero, List.set_cons_succ, List.length_cons, List.length_nil, Nat.zero_add, Nat.reduceAdd]
        refine walkR_rel (by kernel_rfl) rfl rfl (of_decide_eq_true (by kernel_rfl)) (fun wx hC hL => ?_) (fun v hv => ?_)
        · go_simp
          exact rel_node hC (i64_small (by omega) (by omega)) (hL.get 74 (.inl rfl) (by kernel_rfl) rfl rfl)
        obtain ⟨_, _, hv⟩ := hv
        obtain ⟨_, _, _, _, rfl, -⟩ := FormIn.form hv
        clear hv
        simp only [Act.put, List.setIfInBounds_toArray, List.set_cons_zero, List.set_cons_succ, Tree.op_node, Tree.name_node, Tree.args_node, List.length_cons, List.length_nil, Nat.zero_add, Nat.reduceAdd]
        repeat (
          refine' walkR_plain (by kernel_rfl) rfl rfl (fun wx hC hL => ?_) ?_
          rotate_left
          · (go_simp; exact ⟨rfl, rfl⟩)
          simp only [Act.put, List.setIfInBounds_toArray, List.set_cons_zero, List.set_cons_succ])
        refine walkR_rel (by kernel_rfl) rfl rfl (of_decide_eq_true (by kernel_rfl)) (fun wx hC hL => ?_) (fun v hv => ?_)
        · go_simp
          exact rel_eval hC (hL.get 75 (.inl rfl) (by kernel_rfl) rfl rfl) hlen' HY.out E7.out
        obtain ⟨_, _, rfl⟩ := hv
        simp only [Act.put, List.setIfInBounds_toArray, List.set_cons_zero, List.set_cons_succ]
        repeat (
          refine' walkR_plain (by kernel_rfl) rfl rfl (fun wx hC hL => ?_) ?_
          rotate_left
          · (go_simp; exact ⟨rfl, rfl⟩)
          simp only [Act.put, List.setIfInBounds_toArray, List.set_cons_zero, List.set_cons_succ])
        refine walkR_rel (by kernel_rfl) rfl rfl (of_decide_eq_true (by kernel_rfl)) (fun wx hC hL => ?_) (fun v hv => ?_)
        · go_simp
          exact ⟨hC.grown (Grows.alloc _ _), Grows.alloc _ _, isForms_two (anyS_all _) (hC.form HXN.out.form.free) (hC.form HXG.out.form.free)⟩
        obtain ⟨_, _, _, _, rfl, -⟩ := hv
        simp only [Act.put, List.setIfInBounds_toArray, List.set_cons_zero, List.set_cons_succ, List.length_cons, List.length_nil, Nat.zero_add, Nat.reduceAdd]
        refine walkR_rel (by kernel_rfl) rfl rfl (of_decide_eq_true (by kernel_rfl)) (fun wx hC hL => ?_) (fun v hv => ?_)
        · go_simp
          exact rel_node hC (i64_small (by omega) (by omega)) (hL.get 80 (.inl rfl) (by kernel_rfl) rfl rfl)
        obtain ⟨_, _, hv⟩ := hv
        obtain ⟨_, _, _, _, rfl, -⟩ := FormIn.form hv
        clear hv
        simp only [Act.put, List.setIfInBounds_toArray, List.set_cons_zero, List.set_cons_succ, Tree.op_node, Tree.name_node, Tree.args_node, List.length_cons, List.length_nil, Nat.zero_add, Nat.reduceAdd]
        repeat (
          refine' walkR_plain (by kernel_rfl) rfl rfl (fun wx hC hL => ?_) ?_
          rotate_left
          · (go_simp; exact ⟨rfl, rfl⟩)
          simp only [Act.put, List.setIfInBounds_toArray, List.set_cons_zero, List.set_cons_succ])
        refine walkR_rel (by kernel_rfl) rfl rfl (of_decide_eq_true (by kernel_rfl)) (fun wx hC hL => ?_) (fun v hv => ?_)
        · go_simp
          exact rel_eval hC (hL.get 81 (.inl rfl) (by kernel_rfl) rfl rfl) hlen' HY.out E9.out
        obtain ⟨_, _, rfl⟩ := hv
        simp only [Act.put, List.setIfInBounds_toArray, List.set_cons_zero, List.set_cons_succ]
        repeat (
          refine' walkR_plain (by kernel_rfl) rfl rfl (fun wx hC hL => ?_) ?_
          rotate_left
          · (go_simp; exact ⟨rfl, rfl⟩)
          simp only [Act.put, List.setIfInBounds_toArray, List.set_cons_zero, List.set_cons_succ])
        refine walkR_rel (by kernel_rfl) rfl rfl (of_decide_eq_true (by kernel_rfl)) (fun wx hC hL => ?_) (fun v hv => ?_)
        · go_simp
          exact ⟨hC.grown (Grows.alloc _ _), Grows.alloc _ _, isForms_two (anyS_all _) (hC.form HXF.out.form.free) (hC.form HXG.out.form.free)⟩
        obtain ⟨_, _, _, _, rfl, -⟩ := hv
        simp only [Act.put, List.setIfInBounds_toArray, List.set_cons_zero, List.set_cons_succ, List.length_cons, List.length_nil, Nat.zero_add, Nat.reduceAdd]
        refine walkR_rel (by kernel_rfl) rfl rfl (of_decide_eq_true (by kernel_rfl)) (fun wx hC hL => ?_) (fun v hv => ?_)
        · go_simp
          exact rel_node hC (i64_small (by omega) (by omega)) (hL.get 88 (.inl rfl) (by kernel_rfl) rfl rfl)
        obtain ⟨_, _, hv⟩ := hv
        obtain ⟨_, _, _, _, rfl, -⟩ := FormIn.form hv
        clear hv
        simp only [Act.put, List.setIfInBounds_toArray, List.set_cons_zero, List.set_cons_succ, Tree.op_node, Tree.name_node, Tree.args_node, List.length_cons, List.length_nil, Nat.zero_add, Nat.reduceAdd]
        repeat (
          refine' walkR_plain (by kernel_rfl) rfl rfl (fun wx hC hL => ?_) ?_
          rotate_left
          · (go_simp; exact ⟨rfl, rfl⟩)
          simp only [Act.put, List.setIfInBounds_toArray, List.set_cons_zero, List.set_cons_succ])
        refine walkR_rel (by kernel_rfl) rfl rfl (of_decide_eq_true (by kernel_rfl)) (fun wx hC hL => ?_) (fun v hv => ?_)
        · go_simp
          exact rel_eval hC (hL.get 89 (.inl rfl) (by kernel_rfl) rfl rfl) hlen' HY.out E8.out
        obtain ⟨_, _, rfl⟩ := hv
        simp only [Act.put, List.setIfInBounds_toArray, List.set_cons_zero, List.set_cons_succ]
        repeat (
          refine' walkR_plain (by kernel_rfl) rfl rfl (fun wx hC hL => ?_) ?_
          rotate_left
          · (go_simp; exact ⟨rfl, rfl⟩)
          simp only [Act.put, List.setIfInBounds_toArray, List.set_cons_zero, List.set_cons_succ])
        refine walkR_rel (by kernel_rfl) rfl rfl (of_decide_eq_true (by kernel_rfl)) (fun wx hC hL => ?_) (fun v hv => ?_)
        · go_simp
          exact ⟨hC.grown (Grows.alloc _ _), Grows.alloc _ _, isForms_two (anyS_all _) (hC.form HXF.out.form.free) (hC.form HXG.out.form.free)⟩
        obtain ⟨_, _, _, _, rfl, -⟩ := hv
        simp only [Act.put, List.setIfInBounds_toArray, List.set_cons_zero, List.set_cons_succ, List.length_cons, List.length_nil, Nat.zero_add, Nat.reduceAdd]
        refine walkR_rel (by kernel_rfl) rfl rfl (of_decide_eq_true (by kernel_rfl)) (fun wx hC hL => ?_) (fun v hv => ?_)
        · go_simp
          exact rel_node hC (i64_small (by omega) (by omega)) (hL.get 100 (.inl rfl) (by kernel_rfl) rfl rfl)
        obtain ⟨_, _, hv⟩ := hv
        obtain ⟨_, _, _, _, rfl, -⟩ := FormIn.form hv
        clear hv
        simp only [Act.put, List.setIfInBounds_toArray, List.set_cons_zero, List.set_cons_succ, Tree.op_node, Tree.name_node, Tree.args_node, List.length_cons, List.length_nil, Nat.zero_add, Nat.reduceAdd]
        refine walkR_rel (by kernel_rfl) rfl rfl (of_decide_eq_true (by kernel_rfl)) (fun wx hC hL => ?_) (fun v hv => ?_)
        · go_simp
          exact ⟨hC.grown (Grows.alloc _ _), Grows.alloc _ _, isForms_one (anyS_all _) (hL.get 101 (.inl rfl) (by kernel_rfl) rfl rfl)⟩
        obtain ⟨_, _, _, _, rfl, -⟩ := hv
        simp only [Act.put, List.setIfInBounds_toArray, List.set_cons_zero, List.set_cons_succ, List.length_cons, List.length_nil, Nat.zero_add]
        refine walkR_rel (by kernel_rfl) rfl rfl (of_decide_eq_true (by kernel_rfl)) (fun wx hC hL => ?_) (fun v hv => ?_)
        · go_simp
          exact rel_node hC (i64_small (by omega) (by omega)) (hL.get 102 (.inl rfl) (by kernel_rfl) rfl rfl)
        obtain ⟨_, _, hv⟩ := hv
        obtain ⟨_, _, _, _, rfl, -⟩ := FormIn.form hv
        clear hv
        simp only [Act.put, List.setIfInBounds_toArray, List.set_cons_zero, List.set_cons_succ, Tree.op_node, Tree.name_node, Tree.args_node, List.length_cons, List.length_nil, Nat.zero_add]
        repeat (
          refine' walkR_plain (by kernel_rfl) rfl rfl (fun wx hC hL => ?_) ?_
          rotate_left
          · (go_simp; exact ⟨rfl, rfl⟩)
          simp only [Act.put, List.setIfInBounds_toArray, List.set_cons_zero, List.set_cons_succ])
        refine walkR_rel (by kernel_rfl) rfl rfl (of_decide_eq_true (by kernel_rfl)) (fun wx hC hL => ?_) (fun v hv => ?_)
        · go_simp
          exact rel_eval hC (hL.get 103 (.inl rfl) (by kernel_rfl) rfl rfl) hlen' HY.out E10.out
        obtain ⟨_, _, rfl⟩ := hv
        simp only [Act.put, List.setIfInBounds_toArray, List.set_cons_zero, List.set_cons_succ]
        repeat (
          refine' walkR_plain (by kernel_rfl) rfl rfl (fun wx hC hL => ?_) ?_
          rotate_left
          · (go_simp; exact ⟨rfl, rfl⟩)
          simp only [Act.put, List.setIfInBounds_toArray, List.set_cons_zero, List.set_cons_succ])
        refine walkR_rel (by kernel_rfl) rfl rfl (of_decide_eq_true (by kernel_rfl)) (fun wx hC hL => ?_) (fun v hv => ?_)
        · go_simp
          exact ⟨hC.grown (Grows.alloc _ _), Grows.alloc _ _, isForms_one (anyS_all _) (hC.form HXG.out.form.free)⟩
        obtain ⟨_, _, _, _, rfl, -⟩ := hv
        simp only [Act.put, List.setIfInBounds_toArray, List.set_cons_zero, List.set_cons_succ, List.length_cons, List.length_nil, Nat.zero_add]
        refine walkR_rel (by kernel_rfl) rfl rfl (of_decide_eq_true (by kernel_rfl)) (fun wx hC hL => ?_) (fun v hv => ?_)
        · go_simp
          exact rel_node hC (i64_small (by omega) (by omega)) (hL.get 108 (.inl rfl) (by kernel_rfl) rfl rfl)
        obtain ⟨_, _, hv⟩ := hv
        obtain ⟨_, _, _, _, rfl, -⟩ := FormIn.form hv
        clear hv
        simp only [Act.put, List.setIfInBounds_toArray, List.set_cons_zero, List.set_cons_succ, Tree.op_node, Tree.name_node, Tree.args_node, List.length_cons, List.length_nil, Nat.zero_add]
        refine walkR_rel (by kernel_rfl) rfl rfl (of_decide_eq_true (by kernel_rfl)) (fun wx hC hL => ?_) (fun v hv => ?_)
        · go_simp
          exact ⟨hC.grown (Grows.alloc _ _), Grows.alloc _ _, isForms_two (anyS_all _) (hC.form HXN.out.form.free) (hL.get 109 (.inl rfl) (by kernel_rfl) rfl rfl)⟩
        obtain ⟨_, _, _, _, rfl, -⟩ := hv
        simp only [Act.put, List.setIfInBounds_toArray, List.set_cons_zero, List.set_cons_succ, List.length_cons, List.length_nil, Nat.zero_add, Nat.reduceAdd]
        refine walkR_rel (by kernel_rfl) rfl rfl (of_decide_eq_true (by kernel_rfl)) (fun wx hC hL => ?_) (fun v hv => ?_)
        · go_simp
          exact rel_node hC (i64_small (by omega) (by omega)) (hL.get 110 (.inl rfl) (by kernel_rfl) rfl rfl)
        obtain ⟨_, _, hv⟩ := hv
        obtain ⟨_, _, _, _, rfl, -⟩ := FormIn.form hv
        clear hv
        simp only [Act.put, List.setIfInBounds_toArray, List.set_cons_zero, List.set_cons_succ, Tree.op_node, Tree.name_node, Tree.args_node, List.length_cons, List.length_nil, Nat.zero_add, Nat.reduceAdd]
        repeat (
          refine' walkR_plain (by kernel_rfl) rfl rfl (fun wx hC hL => ?_) ?_
          rotate_left
          · (go_simp; exact ⟨rfl, rfl⟩)
          simp only [Act.put, List.setIfInBounds_toArray, List.set_cons_zero, List.set_cons_succ])
        refine walkR_rel (by kernel_rfl) rfl rfl (of_decide_eq_true (by kernel_rfl)) (fun wx hC hL => ?_) (fun v hv => ?_)
        · go_simp
          exact rel_eval hC (hL.get 111 (.inl rfl) (by kernel_rfl) rfl rfl) hlen' HY.out E11.out
        obtain ⟨_, _, rfl⟩ := hv
        simp only [Act.put, List.setIfInBounds_toArray, List.set_cons_zero, List.set_cons_succ]
        repeat (
          refine' walkR_plain (by kernel_rfl) rfl rfl (fun wx hC hL => ?_) ?_
          rotate_left
          · (go_simp; exact ⟨rfl, rfl⟩)
          simp only [Act.put, List.setIfInBounds_toArray, List.set_cons_zero, List.set_cons_succ])
        refine fun w9 hE9 _ => ?_
        go_wp2_with fail
        go_roundw
        case rel => exact ⟨k + 1, q6, by omega, by go_num, HXF.out.go hE9, HXG.out.go hE9, HXN.out.go hE9, HS6.out.grow (only_of_below hE9 none), HB6.out.trans (Below.mono hE9 HB6.out.size)⟩
        case measure => simp [intOf]; omega
      · refine wp_region_rel (Ext w6) Grows (relTab [(28, isB true), (31, isB false)]) (by kernel_rfl) (by kernel_rfl) (by kernel_rfl) (stable_cons (isB_up _) (stable_cons (isB_up _) (stable_nil _))) (Ext.start w6) ?_
        repeat (
          refine' walkR_plain (by kernel_rfl) rfl rfl (fun wx hC hL => ?_) ?_
          rotate_left
          · (go_simp; exact ⟨rfl, rfl⟩)
          simp only [Act.put, List.setIfInBounds_toArray, List.set_cons_zero, List.set_cons_succ])
        refine walkR_rel (by kernel_rfl) rfl rfl (of_decide_eq_true (by kernel_rfl)) (fun wx hC hL => ?_) (fun v hv => ?_)
        · go_simp
          exact rel_eval hC (hC.form HXF.out.form.free) hlen' HY.out HA.out
        obtain ⟨_, _, rfl⟩ := hv
        simp only [Act.put, List.setIfInBounds_toArray, List.set_cons_zero, List.set_cons_succ]
        repeat (
          refine' walkR_plain (by kernel_rfl) rfl rfl (fun wx hC hL => ?_) ?_
          rotate_left
          · (go_simp; exact ⟨rfl, rfl⟩)
          simp only [Act.put, List.setIfInBounds_toArray, List.set_cons_zero, List.set_cons_succ])
        refine walkR_rel (by kernel_rfl) rfl rfl (of_decide_eq_true (by kernel_rfl)) (fun wx hC hL => ?_) (fun v hv => ?_)
        · go_simp
          exact rel_eval hC (hC.form HXG.out.form.free) hlen' HY.out HB.out
        obtain ⟨_, _, rfl⟩ := hv
        simp only [Act.put, List.setIfInBounds_toArray, List.set_cons_zero, List.set_cons_succ]
        repeat (
          refine' walkR_plain (by kernel_rfl) rfl rfl (fun wx hC hL => ?_) ?_
          rotate_left
          · (go_simp; exact ⟨rfl, rfl⟩)
          simp only [Act.put, List.setIfInBounds_toArray, List.set_cons_zero, List.set_cons_succ])
        refine fun w7 hE7 _ => ?_
        go_wp2_with fail
        refine (rel_eval hE7 (Ext.form hE7 HXN.out.form.free) hlen' HY.out E0.out).mono ?_
        rintro e wa1 ⟨_, rfl, hEa1, -, hv⟩
        obtain rfl := hv
        clear hE7
        go_wp2_with fail
        refine (rel_node (Ext.grown hEa1 (Grows.alloc _ _)) (i64_small (by omega) (by omega)) (isForms_one (anyS_all _) (Ext.form hEa1 HXN.out.form.free))).mono ?_
        rintro e wa2 ⟨_, rfl, hEa2, -, hv⟩
        obtain ⟨_, _, _, _, rfl, -⟩ := FormIn.form hv
        have HVa2 := hidIt hv
        clear hv hEa1
        go_wp2_with fail
        refine (rel_eval hEa2 (HVa2.out) hlen' HY.out E1.out).mono ?_
        rintro e wa3 ⟨_, rfl, hEa3, -, hv⟩
        obtain rfl := hv
        clear hEa2
        go_wp2_with fail
        refine (rel_node (Ext.grown hEa3 (Grows.alloc _ _)) (i64_small (by omega) (by omega)) (isForms_two (anyS_all _) (Ext.form hEa3 HXF.out.form.free) (Ext.form hEa3 HXG.out.form.free))).mono ?_
        rintro e wa4 ⟨_, rfl, hEa4, -, hv⟩
        obtain ⟨_, _, _, _, rfl, -⟩ := FormIn.form hv
        have HVa4 := hidIt hv
        clear hv hEa3
        go_wp2_with fail
        refine (rel_eval hEa4 (HVa4.out) hlen' HY.out E5.out).mono ?_
        rintro e wa5 ⟨_, rfl, hEa5, -, hv⟩
        obtain rfl := hv
        clear hEa4
        go_wp2_with fail
        refine (rel_node (Ext.grown hEa5 (Grows.alloc _ _)) (i64_small (by omega) (by omega)) (isForms_two (anyS_all _) (Ext.form hEa5 HXF.out.form.free) (Ext.form hEa5 HXG.out.form.free))).mono ?_
        rintro e wa6 ⟨_, rfl, hEa6, -, hv⟩
        obtain ⟨_, _, _, _, rfl, -⟩ := FormIn.form hv
        have HVa6 := hidIt hv
        clear hv hEa5
        go_wp2_with fail
        refine (rel_eval hEa6 (HVa6.out) hlen' HY.out E6.out).mono ?_
        rintro e w8 ⟨_, rfl, hE8, -, hv⟩
        obtain rfl := hv
        clear hEa6
        go_wp2_with fail
        refine wp_region_rel (Ext w6) Grows (relTab [(74, isForms anyS [f, g]), (75, isForm anyS (.node 7 ⟨#[]⟩ [f, g])), (77, isB false), (80, isForms anyS [(.node 4 ⟨#[]⟩ [f]), g]), (81, isForm anyS (.node 6 ⟨#[]⟩ [(.node 4 ⟨#[]⟩ [f]), g])), (83, isB false), (88, isForms anyS [f, g]), (89, isForm anyS (.node 8 ⟨#[]⟩ [f, g])), (91, isB false), (100, isForms anyS [f, g]), (101, isForm anyS (.node 5 ⟨#[]⟩ [f, g])), (102, isForms anyS [(.node 5 ⟨#[]⟩ [f, g])]), (103, isForm anyS (.node 4 ⟨#[]⟩ [(.node 5 ⟨#[]⟩ [f, g])])), (105, isB true), (108, isForms anyS [g]), (109, isForm anyS (.node 4 ⟨#[]⟩ [g])), (110, isForms anyS [(.node 4 ⟨#[]⟩ [f]), (.node 4 ⟨#[]⟩ [g])]), (111, isForm anyS (.node 6 ⟨#[]⟩ [(.node 4 ⟨#[]⟩ [f]), (.node 4 ⟨#[]⟩ [g])])), (113, isB true)]) (by kernel_rfl) (by kernel_rfl) (by kernel_rfl) (stable_cons (isForms_up _ _) (stable_cons (isForm_up _ _) (stable_cons (isB_up _) (stable_cons (isForms_up _ _) (stable_cons (isForm_up _ _) (stable_cons (isB_up _) (stable_cons (isForms_up _ _) (stable_cons (isForm_up _ _) (stable_cons (isB_up _) (stable_cons (isForms_up _ _) (stable_cons (isForm_up _ _) (stable_cons (isForms_up _ _) (stable_cons (isForm_up _ _) (stable_cons (isB_up _) (stable_cons (isForms_up _ _) (stable_cons (isForm_up _ _) (stable_cons (isForms_up _ _) (stable_cons (isForm_up _ _) (stable_cons (isB_up _) (stable_nil _)))))))))))))))))))) (Below.drew hE8) ?_
        repeat (
          refine' walkR_plain (by kernel_rfl) rfl rfl (fun wx hC hL => ?_) ?_
          rotate_left
          · (go_simp; exact ⟨rfl, rfl⟩)
          simp only [Act.put, List.setIfInBounds_toArray, List.set_cons_zero, List.set_cons_succ])
        refine walkR_rel (by kernel_rfl) rfl rfl (of_decide_eq_true (by kernel_rfl)) (fun wx hC hL => ?_) (fun v hv => ?_)
        · go_simp
          exact ⟨hC.grown (Grows.alloc _ _), Grows.alloc _ _, isForms_two (anyS_all _) (hC.form HXF.out.form.free) (hC.form HXG.out.form.free)⟩
        obtain ⟨_, _, _, _, rfl, -⟩ := hv
        simp only [Act.put, List.setIfInBounds_toArray, List.set_cons_zero, List.set_cons_succ, List.length_cons, List.length_nil, Nat.zero_add, Nat.reduceAdd]
        refine walkR_rel (by kernel_rfl) rfl rfl (of_decide_eq_true (by kernel_rfl)) (fun wx hC hL => ?_) (fun v hv => ?_)
        · go_simp
          exact rel_node hC (i64_small (by omega) (by omega)) (hL.get 74 (.inl rfl) (by kernel_rfl) rfl rfl)
        obtain ⟨_, _, hv⟩ := hv
        obtain ⟨_, _, _, _, rfl, -⟩ := FormIn.form hv
        clear hv
        simp only [Act.put, List.setIfInBounds_toArray, List.set_cons_zero, List.set_cons_succ, Tree.op_node, Tree.name_node, Tree.args_node, List.length_cons, List.length_nil, Nat.zero_add, Nat.reduceAdd]
        repeat (
          refine' walkR_plain (by kernel_rfl) rfl rfl (fun wx hC hL => ?_) ?_
          rotate_left
          · (go_simp; exact ⟨rfl, rfl⟩)
          simp only [Act.put, List.setIfInBounds_toArray, List.set_cons_zero, List.set_cons_succ])
        refine walkR_rel (by kernel_rfl) rfl rfl (of_decide_eq_true (by kernel_rfl)) (fun wx hC hL => ?_) (fun v hv => ?_)
        · go_simp
          exact rel_eval hC (hL.get 75 (.inl rfl) (by kernel_rfl) rfl rfl) hlen' HY.out E7.out
        obtain ⟨_, _, rfl⟩ := hv
        simp only [Act.put, List.setIfInBounds_toArray, List.set_cons_zero, List.set_cons_succ]
        repeat (
          refine' walkR_plain (by kernel_rfl) rfl rfl (fun wx hC hL => ?_) ?_
          rotate_left
          · (go_simp; exact ⟨rfl, rfl⟩)
          simp only [Act.put, List.setIfInBounds_toArray, List.set_cons_zero, List.set_cons_succ])
        refine walkR_rel (by kernel_rfl) rfl rfl (of_decide_eq_true (by kernel_rfl)) (fun wx hC hL => ?_) (fun v hv => ?_)
        · go_simp
          exact ⟨hC.grown (Grows.alloc _ _), Grows.alloc _ _, isForms_two (anyS_all _) (hC.form HXN.out.form.free) (hC.form HXG.out.form.free)⟩
        obtain ⟨_, _, _, _, rfl, -⟩ := hv
        simp only [Act.put, List.setIfInBounds_toArray, List.set_cons_zero, List.set_cons_succ, List.length_cons, List.length_nil, Nat.zero_add, Nat.reduceAdd]
        refine walkR_rel (by kernel_rfl) rfl rfl (of_decide_eq_true (by kernel_rfl)) (fun wx hC hL => ?_) (fun v hv => ?_)
        · go_simp
          exact rel_node hC (i64_small (by omega) (by omega)) (hL.get 80 (.inl rfl) (by kernel_rfl) rfl rfl)
        obtain ⟨_, _, hv⟩ := hv
        obtain ⟨_, _, _, _, rfl, -⟩ := FormIn.form hv
        clear hv
        simp only [Act.put, List.setIfInBounds_toArray, List.set_cons_zero, List.set_cons_succ, Tree.op_node, Tree.name_node, Tree.args_node, List.length_cons, List.length_nil, Nat.zero_add, Nat.reduceAdd]
        repeat (
          refine' walkR_plain (by kernel_rfl) rfl rfl (fun wx hC hL => ?_) ?_
          rotate_left
          · (go_simp; exact ⟨rfl, rfl⟩)
          simp only [Act.put, List.setIfInBounds_toArray, List.set_cons_zero, List.set_cons_succ])
        refine walkR_rel (by kernel_rfl) rfl rfl (of_decide_eq_true (by kernel_rfl)) (fun wx hC hL => ?_) (fun v hv => ?_)
        · go_simp
          exact rel_eval hC (hL.get 81 (.inl rfl) (by kernel_rfl) rfl rfl) hlen' HY.out E9.out
        obtain ⟨_, _, rfl⟩ := hv
        simp only [Act.put, List.setIfInBounds_toArray, List.set_cons_zero, List.set_cons_succ]
        repeat (
          refine' walkR_plain (by kernel_rfl) rfl rfl (fun wx hC hL => ?_) ?_
          rotate_left
          · (go_simp; exact ⟨rfl, rfl⟩)
          simp only [Act.put, List.setIfInBounds_toArray, List.set_cons_zero, List.set_cons_succ])
        refine walkR_rel (by kernel_rfl) rfl rfl (of_decide_eq_true (by kernel_rfl)) (fun wx hC hL => ?_) (fun v hv => ?_)
        · go_simp
          exact ⟨hC.grown (Grows.alloc _ _), Grows.alloc _ _, isForms_two (anyS_all _) (hC.form HXF.out.form.free) (hC.form HXG.out.form.free)⟩
        obtain ⟨_, _, _, _, rfl, -⟩ := hv
        simp only [Act.put, List.setIfInBounds_toArray, List.set_cons_zero, List.set_cons_succ, List.length_cons, List.length_nil, Nat.zero_add, Nat.reduceAdd]
        refine walkR_rel (by kernel_rfl) rfl rfl (of_decide_eq_true (by kernel_rfl)) (fun wx hC hL => ?_) (fun v hv => ?_)
        · go_simp
          exact rel_node hC (i64_small (by omega) (by omega)) (hL.get 88 (.inl rfl) (by kernel_rfl) rfl rfl)
        obtain ⟨_, _, hv⟩ := hv
        obtain ⟨_, _, _, _, rfl, -⟩ := FormIn.form hv
        clear hv
        simp only [Act.put, List.setIfInBounds_toArray, List.set_cons_zero, List.set_cons_succ, Tree.op_node, Tree.name_node, Tree.args_node, List.length_cons, List.length_nil, Nat.zero_add, Nat.reduceAdd]
        repeat (
          refine' walkR_plain (by kernel_rfl) rfl rfl (fun wx hC hL => ?_) ?_
          rotate_left
          · (go_simp; exact ⟨rfl, rfl⟩)
          simp only [Act.put, List.setIfInBounds_toArray, List.set_cons_zero, List.set_cons_succ])
        refine walkR_rel (by kernel_rfl) rfl rfl (of_decide_eq_true (by kernel_rfl)) (fun wx hC hL => ?_) (fun v hv => ?_)
        · go_simp
          exact rel_eval hC (hL.get 89 (.inl rfl) (by kernel_rfl) rfl rfl) hlen' HY.out E8.out
        obtain ⟨_, _, rfl⟩ := hv
        simp only [Act.put, List.setIfInBounds_toArray, List.set_cons_zero, List.set_cons_succ]
        repeat (
          refine' walkR_plain (by kernel_rfl) rfl rfl (fun wx hC hL => ?_) ?_
          rotate_left
          · (go_simp; exact ⟨rfl, rfl⟩)
          simp only [Act.put, List.setIfInBounds_toArray, List.set_cons_zero, List.set_cons_succ])
        refine walkR_rel (by kernel_rfl) rfl rfl (of_decide_eq_true (by kernel_rfl)) (fun wx hC hL => ?_) (fun v hv => ?_)
        · go_simp
          exact ⟨hC.grown (Grows.alloc _ _), Grows.alloc _ _, isForms_two (anyS_all _) (hC.form HXF.out.form.free) (hC.form HXG.out.form.free)⟩
        obtain ⟨_, _, _, _, rfl, -⟩ := hv
        simp only [Act.put, List.setIfInBounds_toArray, List.set_cons_zero, List.set_cons_succ, List.length_cons, List.length_nil, Nat.zero_add, Nat.reduceAdd]
        refine walkR_rel (by kernel_rfl) rfl rfl (of_decide_eq_true (by kernel_rfl)) (fun wx hC hL => ?_) (fun v hv => ?_)
        · go_simp
          exact rel_node hC (i64_small (by omega) (by omega)) (hL.get 100 (.inl rfl) (by kernel_rfl) rfl rfl)
        obtain ⟨_, _, hv⟩ := hv
        obtain ⟨_, _, _, _, rfl, -⟩ := FormIn.form hv
        clear hv
        simp only [Act.put, List.setIfInBounds_toArray, List.set_cons_zero, List.set_cons_succ, Tree.op_node, Tree.name_node, Tree.args_node, List.length_cons, List.length_nil, Nat.zero_add, Nat.reduceAdd]
        refine walkR_rel (by kernel_rfl) rfl rfl (of_decide_eq_true (by kernel_rfl)) (fun wx hC hL => ?_) (fun v hv => ?_)
        · go_simp
          exact ⟨hC.grown (Grows.alloc _ _), Grows.alloc _ _, isForms_one (anyS_all _) (hL.get 101 (.inl rfl) (by kernel_rfl) rfl rfl)⟩
        obtain ⟨_, _, _, _, rfl, -⟩ := hv
        simp only [Act.put, List.setIfInBounds_toArray, List.set_cons_zero, List.set_cons_succ, List.length_cons, List.length_nil, Nat.zero_add]
        refine walkR_rel (by kernel_rfl) rfl rfl (of_decide_eq_true (by kernel_rfl)) (fun wx hC hL => ?_) (fun v hv => ?_)
        · go_simp
          exact rel_node hC (i64_small (by omega) (by omega)) (hL.get 102 (.inl rfl) (by kernel_rfl) rfl rfl)
        obtain ⟨_, _, hv⟩ := hv
        obtain ⟨_, _, _, _, rfl, -⟩ := FormIn.form hv
        clear hv
        simp only [Act.put, List.setIfInBounds_toArray, List.set_cons_zero, List.set_cons_succ, Tree.op_node, Tree.name_node, Tree.args_node, List.length_cons, List.length_nil, Nat.zero_add]
        repeat (
          refine' walkR_plain (by kernel_rfl) rfl rfl (fun wx hC hL => ?_) ?_
          rotate_left
          · (go_simp; exact ⟨rfl, rfl⟩)
          simp only [Act.put, List.setIfInBounds_toArray, List.set_cons_zero, List.set_cons_succ])
        refine walkR_rel (by kernel_rfl) rfl rfl (of_decide_eq_true (by kernel_rfl)) (fun wx hC hL => ?_) (fun v hv => ?_)
        · go_simp
          exact rel_eval hC (hL.get 103 (.inl rfl) (by kernel_rfl) rfl rfl) hlen' HY.out E10.out
        obtain ⟨_, _, rfl⟩ := hv
        simp only [Act.put, List.setIfInBounds_toArray, List.set_cons_zero, List.set_cons_succ]
        repeat (
          refine' walkR_plain (by kernel_rfl) rfl rfl (fun wx hC hL => ?_) ?_
          rotate_left
          · (go_simp; exact ⟨rfl, rfl⟩)
          simp only [Act.put, List.setIfInBounds_toArray, List.set_cons_zero, List.set_cons_succ])
        refine walkR_rel (by kernel_rfl) rfl rfl (of_decide_eq_true (by kernel_rfl)) (fun wx hC hL => ?_) (fun v hv => ?_)
        · go_simp
          exact ⟨hC.grown (Grows.alloc _ _), Grows.alloc _ _, isForms_one (anyS_all _) (hC.form HXG.out.form.free)⟩
        obtain ⟨_, _, _, _, rfl, -⟩ := hv
        simp only [Act.put, List.setIfInBounds_toArray, List.set_cons_zero, List.set_cons_succ, List.length_cons, List.length_nil, Nat.zero_add]
        refine walkR_rel (by kernel_rfl) rfl rfl (of_decide_eq_true (by kernel_rfl)) (fun wx hC hL => ?_) (fun v hv => ?_)
        · go_simp
          exact rel_node hC (i64_small (by omega) (by omega)) (hL.get 108 (.inl rfl) (by kernel_rfl) rfl rfl)
        obtain ⟨_, _, hv⟩ := hv
        obtain ⟨_, _, _, _, rfl, -⟩ := FormIn.form hv
        clear hv
        simp only [Act.put, List.setIfInBounds_toArray, List.set_cons_zero, List.set_cons_succ, Tree.op_node, Tree.name_node, Tree.args_node, List.length_cons, List.length_nil, Nat.zero_add]
        refine walkR_rel (by kernel_rfl) rfl rfl (of_decide_eq_true (by kernel_rfl)) (fun wx hC hL => ?_) (fun v hv => ?_)
        · go_simp
          exact ⟨hC.grown (Grows.alloc _ _), Grows.alloc _ _, isForms_two (anyS_all _) (hC.form HXN.out.form.free) (hL.get 109 (.inl rfl) (by kernel_rfl) rfl rfl)⟩
        obtain ⟨_, _, _, _, rfl, -⟩ := hv
        simp only [Act.put, List.setIfInBounds_toArray, List.set_cons_zero, List.set_cons_succ, List.length_cons, List.length_nil, Nat.zero_add, Nat.reduceAdd]
        refine walkR_rel (by kernel_rfl) rfl rfl (of_decide_eq_true (by kernel_rfl)) (fun wx hC hL => ?_) (fun v hv => ?_)
        · go_simp
          exact rel_node hC (i64_small (by omega) (by omega)) (hL.get 110 (.inl rfl) (by kernel_rfl) rfl rfl)
        obtain ⟨_, _, hv⟩ := hv
        obtain ⟨_, _, _, _, rfl, -⟩ := FormIn.form hv
        clear hv
        simp only [Act.put, List.setIfInBounds_toArray, List.set_cons_zero, List.set_cons_succ, Tree.op_node, Tree.name_node, Tree.args_node, List.length_cons, List.length_nil, Nat.zero_add, Nat.reduceAdd]
        repeat (
          refine' walkR_plain (by kernel_rfl) rfl rfl (fun wx hC hL => ?_) ?_
          rotate_left
          · (go_simp; exact ⟨rfl, rfl⟩)
          simp only [Act.put, List.setIfInBounds_toArray, List.set_cons_zero, List.set_cons_succ])
        refine walkR_rel (by kernel_rfl) rfl rfl (of_decide_eq_true (by kernel_rfl)) (fun wx hC hL => ?_) (fun v hv => ?_)
        · go_simp
          exact rel_eval hC (hL.get 111 (.inl rfl) (by kernel_rfl) rfl rfl) hlen' HY.out E11.out
        obtain ⟨_, _, rfl⟩ := hv
        simp only [Act.put, List.setIfInBounds_toArray, List.set_cons_zero, List.set_cons_succ]
        repeat (
          refine' walkR_plain (by kernel_rfl) rfl rfl (fun wx hC hL => ?_) ?_
          rotate_left
          · (go_simp; exact ⟨rfl, rfl⟩)
          simp only [Act.put, List.setIfInBounds_toArray, List.set_cons_zero, List.set_cons_succ])
        refine fun w9 hE9 _ => ?_
        go_wp2_with fail
        go_roundw
        case rel => exact ⟨k + 1, q6, by omega, by go_num, HXF.out.go hE9, HXG.out.go hE9, HXN.out.go hE9, HS6.out.grow (only_of_below hE9 none), HB6.out.trans (Below.mono hE9 HB6.out.size)⟩
        case measure => simp [intOf]; omega
      · refine wp_region_rel (Ext w6) Grows (relTab [(28, isB true), (31, isB true)]) (by kernel_rfl) (by kernel_rfl) (by kernel_rfl) (stable_cons (isB_up _) (stable_cons (isB_up _) (stable_nil _))) (Ext.start w6) ?_
        repeat (
          refine' walkR_plain (by kernel_rfl) rfl rfl (fun wx hC hL => ?_) ?_
          rotate_left
          · (go_simp; exact ⟨rfl, rfl⟩)
          simp only [Act.put, List.setIfInBounds_toArray, List.set_cons_zero, List.set_cons_succ])
        refine walkR_rel (by kernel_rfl) rfl rfl (of_decide_eq_true (by kernel_rfl)) (fun wx hC hL => ?_) (fun v hv => ?_)
        · go_simp
          exact rel_eval hC (hC.form HXF.out.form.free) hlen' HY.out HA.out
        obtain ⟨_, _, rfl⟩ := hv
        simp only [Act.put, List.setIfInBounds_toArray, List.set_cons_zero, List.set_cons_succ]
        repeat (
          refine' walkR_plain (by kernel_rfl) rfl rfl (fun wx hC hL => ?_) ?_
          rotate_left
          · (go_simp; exact ⟨rfl, rfl⟩)
          simp only [Act.put, List.setIfInBounds_toArray, List.set_cons_zero, List.set_cons_succ])
        refine walkR_rel (by kernel_rfl) rfl rfl (of_decide_eq_true (by kernel_rfl)) (fun wx hC hL => ?_) (fun v hv => ?_)
        · go_simp
          exact rel_eval hC (hC.form HXG.out.form.free) hlen' HY.out HB.out
        obtain ⟨_, _, rfl⟩ := hv
        simp only [Act.put, List.setIfInBounds_toArray, List.set_cons_zero, List.set_cons_succ]
        repeat (
          refine' walkR_plain (by kernel_rfl) rfl rfl (fun wx hC hL => ?_) ?_
          rotate_left
          · (go_simp; exact ⟨rfl, rfl⟩)
          simp only [Act.put, List.setIfInBounds_toArray, List.set_cons_zero, List.set_cons_succ])
        refine fun w7 hE7 _ => ?_
        go_wp2_with fail
        refine (rel_eval hE7 (Ext.form hE7 HXN.out.form.free) hlen' HY.out E0.out).mono ?_
        rintro e wa1 ⟨_, rfl, hEa1, -, hv⟩
        obtain rfl := hv
        clear hE7
        go_wp2_with fail
        refine (rel_node (Ext.grown hEa1 (Grows.alloc _ _)) (i64_small (by omega) (by omega)) (isForms_one (anyS_all _) (Ext.form hEa1 HXN.out.form.free))).mono ?_
        rintro e wa2 ⟨_, rfl, hEa2, -, hv⟩
        obtain ⟨_, _, _, _, rfl, -⟩ := FormIn.form hv
        have HVa2 := hidIt hv
        clear hv hEa1
        go_wp2_with fail
        refine (rel_eval hEa2 (HVa2.out) hlen' HY.out E1.out).mono ?_
        rintro e wa3 ⟨_, rfl, hEa3, -, hv⟩
        obtain rfl := hv
        clear hEa2
        go_wp2_with fail
        refine (rel_node (Ext.grown hEa3 (Grows.alloc _ _)) (i64_small (by omega) (by omega)) (isForms_two (anyS_all _) (Ext.form hEa3 HXF.out.form.free) (Ext.form hEa3 HXG.out.form.free))).mono ?_
        rintro e wa4 ⟨_, rfl, hEa4, -, hv⟩
        obtain ⟨_, _, _, _, rfl, -⟩ := FormIn.form hv
        have HVa4 := hidIt hv
        clear hv hEa3
        go_wp2_with fail
        refine (rel_eval hEa4 (HVa4.out) hlen' HY.out E5.out).mono ?_
        rintro e wa5 ⟨_, rfl, hEa5, -, hv⟩
        obtain rfl := hv
        clear hEa4
        go_wp2_with fail
        refine (rel_node (Ext.grown hEa5 (Grows.alloc _ _)) (i64_small (by omega) (by omega)) (isForms_two (anyS_all _) (Ext.form hEa5 HXF.out.form.free) (Ext.form hEa5 HXG.out.form.free))).mono ?_
        rintro e wa6 ⟨_, rfl, hEa6, -, hv⟩
        obtain ⟨_, _, _, _, rfl, -⟩ := FormIn.form hv
        have HVa6 := hidIt hv
        clear hv hEa5
        go_wp2_with fail
        refine (rel_eval hEa6 (HVa6.out) hlen' HY.out E6.out).mono ?_
        rintro e w8 ⟨_, rfl, hE8, -, hv⟩
        obtain rfl := hv
        clear hEa6
        go_wp2_with fail
        refine wp_region_rel (Ext w6) Grows (relTab [(74, isForms anyS [f, g]), (75, isForm anyS (.node 7 ⟨#[]⟩ [f, g])), (77, isB true), (80, isForms anyS [(.node 4 ⟨#[]⟩ [f]), g]), (81, isForm anyS (.node 6 ⟨#[]⟩ [(.node 4 ⟨#[]⟩ [f]), g])), (83, isB true), (88, isForms anyS [f, g]), (89, isForm anyS (.node 8 ⟨#[]⟩ [f, g])), (91, isB true), (100, isForms anyS [f, g]), (101, isForm anyS (.node 5 ⟨#[]⟩ [f, g])), (102, isForms anyS [(.node 5 ⟨#[]⟩ [f, g])]), (103, isForm anyS (.node 4 ⟨#[]⟩ [(.node 5 ⟨#[]⟩ [f, g])])), (105, isB false), (108, isForms anyS [g]), (109, isForm anyS (.node 4 ⟨#[]⟩ [g])), (110, isForms anyS [(.node 4 ⟨#[]⟩ [f]), (.node 4 ⟨#[]⟩ [g])]), (111, isForm anyS (.node 6 ⟨#[]⟩ [(.node 4 ⟨#[]⟩ [f]), (.node 4 ⟨#[]⟩ [g])])), (113, isB false)]) (by kernel_rfl) (by kernel_rfl) (by kernel_rfl) (stable_cons (isForms_up _ _) (stable_cons (isForm_up _ _) (stable_cons (isB_up _) (stable_cons (isForms_up _ _) (stable_cons (isForm_up _ _) (stable_cons (isB_up _) (stable_cons (isForms_up _ _) (stable_cons (isForm_up _ _) (stable_cons (isB_up _) (stable_cons (isForms_up _ _) (stable_cons (isForm_up _ _) (stable_cons (isForms_up _ _) (stable_cons (isForm_up _ _) (stable_cons (isB_up _) (stable_cons (isForms_up _ _) (stable_cons (isForm_up _ _) (stable_cons (isForms_up _ _) (stable_cons (isForm_up _ _) (stable_cons (isB_up _) (stable_nil _)))))))))))))))))))) (Below.drew hE8) ?_
        repeat (
          refine' walkR_plain (by kernel_rfl) rfl rfl (fun wx hC hL => ?_) ?_
          rotate_left
          · (go_simp; exact ⟨rfl, rfl⟩)
          simp only [Act.put, List.setIfInBounds_toArray, List.set_cons_zero, List.set_cons_succ])
        refine walkR_rel (by kernel_rfl) rfl rfl (of_decide_eq_true (by kernel_rfl)) (fun wx hC hL => ?_) (fun v hv => ?_)
        · go_simp
          exact ⟨hC.grown (Grows.alloc _ _), Grows.alloc _ _, isForms_two (anyS_all _) (hC.form HXF.out.form.free) (hC.form HXG.out.form.free)⟩
        obtain ⟨_, _, _, _, rfl, -⟩ := hv
        simp only [Act.put, List.setIfInBounds_toArray, List.set_cons_zero, List.set_cons_succ, List.length_cons, List.length_nil, Nat.zero_add, Nat.reduceAdd]
        refine walkR_rel (by kernel_rfl) rfl rfl (of_decide_eq_true (by kernel_rfl)) (fun wx hC hL => ?_) (fun v hv => ?_)
        · go_simp
          exact rel_node hC (i64_small (by omega) (by omega)) (hL.get 74 (.inl rfl) (by kernel_rfl) rfl rfl)
        obtain ⟨_, _, hv⟩ := hv
        obtain ⟨_, _, _, _, rfl, -⟩ := FormIn.form hv
        clear hv
        simp only [Act.put, List.setIfInBounds_toArray, List.set_cons_zero, List.set_cons_succ, Tree.op_node, Tree.name_node, Tree.args_node, List.length_cons, List.length_nil, Nat.zero_add, Nat.reduceAdd]
        repeat (
          refine' walkR_plain (by kernel_rfl) rfl rfl (fun wx hC hL => ?_) ?_
          rotate_left
          · (go_simp; exact ⟨rfl, rfl⟩)
          simp only [Act.put, List.setIfInBounds_toArray, List.set_cons_zero, List.set_cons_succ])
        refine walkR_rel (by kernel_rfl) rfl rfl (of_decide_eq_true (by kernel_rfl)) (fun wx hC hL => ?_) (fun v hv => ?_)
        · go_simp
          exact rel_eval hC (hL.get 75 (.inl rfl) (by kernel_rfl) rfl rfl) hlen' HY.out E7.out
        obtain ⟨_, _, rfl⟩ := hv
        simp only [Act.put, List.setIfInBounds_toArray, List.set_cons_zero, List.set_cons_succ]
        repeat (
          refine' walkR_plain (by kernel_rfl) rfl rfl (fun wx hC hL => ?_) ?_
          rotate_left
          · (go_simp; exact ⟨rfl, rfl⟩)
          simp only [Act.put, List.setIfInBounds_toArray, List.set_cons_zero, List.set_cons_succ])
        refine walkR_rel (by kernel_rfl) rfl rfl (of_decide_eq_true (by kernel_rfl)) (fun wx hC hL => ?_) (fun v hv => ?_)
        · go_simp
          exact ⟨hC.grown (Grows.alloc _ _), Grows.alloc _ _, isForms_two (anyS_all _) (hC.form HXN.out.form.free) (hC.form HXG.out.form.free)⟩
        obtain ⟨_, _, _, _, rfl, -⟩ := hv
        simp only [Act.put, List.setIfInBounds_toArray, List.set_cons_zero, List.set_cons_succ, List.length_cons, List.length_nil, Nat.zero_add, Nat.reduceAdd]
        refine walkR_rel (by kernel_rfl) rfl rfl (of_decide_eq_true (by kernel_rfl)) (fun wx hC hL => ?_) (fun v hv => ?_)
        · go_simp
          exact rel_node hC (i64_small (by omega) (by omega)) (hL.get 80 (.inl rfl) (by kernel_rfl) rfl rfl)
        obtain ⟨_, _, hv⟩ := hv
        obtain ⟨_, _, _, _, rfl, -⟩ := FormIn.form hv
        clear hv
        simp only [Act.put, List.setIfInBounds_toArray, List.set_cons_zero, List.set_cons_succ, Tree.op_node, Tree.name_node, Tree.args_node, List.length_cons, List.length_nil, Nat.zero_add, Nat.reduceAdd]
        repeat (
          refine' walkR_plain (by kernel_rfl) rfl rfl (fun wx hC hL => ?_) ?_
          rotate_left
          · (go_simp; exact ⟨rfl, rfl⟩)
          simp only [Act.put, List.setIfInBounds_toArray, List.set_cons_zero, List.set_cons_succ])
        refine walkR_rel (by kernel_rfl) rfl rfl (of_decide_eq_true (by kernel_rfl)) (fun wx hC hL => ?_) (fun v hv => ?_)
        · go_simp
          exact rel_eval hC (hL.get 81 (.inl rfl) (by kernel_rfl) rfl rfl) hlen' HY.out E9.out
        obtain ⟨_, _, rfl⟩ := hv
        simp only [Act.put, List.setIfInBounds_toArray, List.set_cons_zero, List.set_cons_succ]
        repeat (
          refine' walkR_plain (by kernel_rfl) rfl rfl (fun wx hC hL => ?_) ?_
          rotate_left
          · (go_simp; exact ⟨rfl, rfl⟩)
          simp only [Act.put, List.setIfInBounds_toArray, List.set_cons_zero, List.set_cons_succ])
        refine walkR_rel (by kernel_rfl) rfl rfl (of_decide_eq_true (by kernel_rfl)) (fun wx hC hL => ?_) (fun v hv => ?_)
        · go_simp
          exact ⟨hC.grown (Grows.alloc _ _), Grows.alloc _ _, isForms_two (anyS_all _) (hC.form HXF.out.form.free) (hC.form HXG.out.form.free)⟩
        obtain ⟨_, _, _, _, rfl, -⟩ := hv
        simp only [Act.put, List.setIfInBounds_toArray, List.set_cons_zero, List.set_cons_succ, List.length_cons, List.length_nil, Nat.zero_add, Nat.reduceAdd]
        refine walkR_rel (by kernel_rfl) rfl rfl (of_decide_eq_true (by kernel_rfl)) (fun wx hC hL => ?_) (fun v hv => ?_)
        · go_simp
          exact rel_node hC (i64_small (by omega) (by omega)) (hL.get 88 (.inl rfl) (by kernel_rfl) rfl rfl)
        obtain ⟨_, _, hv⟩ := hv
        obtain ⟨_, _, _, _, rfl, -⟩ := FormIn.form hv
        clear hv
        simp only [Act.put, List.setIfInBounds_toArray, List.set_cons_zero, List.set_cons_succ, Tree.op_node, Tree.name_node, Tree.args_node, List.length_cons, List.length_nil, Nat.zero_add, Nat.reduceAdd]
        repeat (
          refine' walkR_plain (by kernel_rfl) rfl rfl (fun wx hC hL => ?_) ?_
          rotate_left
          · (go_simp; exact ⟨rfl, rfl⟩)
          simp only [Act.put, List.setIfInBounds_toArray, List.set_cons_zero, List.set_cons_succ])
        refine walkR_rel (by kernel_rfl) rfl rfl (of_decide_eq_true (by kernel_rfl)) (fun wx hC hL => ?_) (fun v hv => ?_)
        · go_simp
          exact rel_eval hC (hL.get 89 (.inl rfl) (by kernel_rfl) rfl rfl) hlen' HY.out E8.out
        obtain ⟨_, _, rfl⟩ := hv
        simp only [Act.put, List.setIfInBounds_toArray, List.set_cons_zero, List.set_cons_succ]
        repeat (
          refine' walkR_plain (by kernel_rfl) rfl rfl (fun wx hC hL => ?_) ?_
          rotate_left
          · (go_simp; exact ⟨rfl, rfl⟩)
          simp only [Act.put, List.setIfInBounds_toArray, List.set_cons_zero, List.set_cons_succ])
        refine walkR_rel (by kernel_rfl) rfl rfl (of_decide_eq_true (by kernel_rfl)) (fun wx hC hL => ?_) (fun v hv => ?_)
        · go_simp
          exact ⟨hC.grown (Grows.alloc _ _), Grows.alloc _ _, isForms_two (anyS_all _) (hC.form HXF.out.form.free) (hC.form HXG.out.form.free)⟩
        obtain ⟨_, _, _, _, rfl, -⟩ := hv
        simp only [Act.put, List.setIfInBounds_toArray, List.set_cons_zero, List.set_cons_succ, List.length_cons, List.length_nil, Nat.zero_add, Nat.reduceAdd]
        refine walkR_rel (by kernel_rfl) rfl rfl (of_decide_eq_true (by kernel_rfl)) (fun wx hC hL => ?_) (fun v hv => ?_)
        · go_simp
          exact rel_node hC (i64_small (by omega) (by omega)) (hL.get 100 (.inl rfl) (by kernel_rfl) rfl rfl)
        obtain ⟨_, _, hv⟩ := hv
        obtain ⟨_, _, _, _, rfl, -⟩ := FormIn.form hv
        clear hv
        simp only [Act.put, List.setIfInBounds_toArray, List.set_cons_zero, List.set_cons_succ, Tree.op_node, Tree.name_node, Tree.args_node, List.length_cons, List.length_nil, Nat.zero_add, Nat.reduceAdd]
        refine walkR_rel (by kernel_rfl) rfl rfl (of_decide_eq_true (by kernel_rfl)) (fun wx hC hL => ?_) (fun v hv => ?_)
        · go_simp
          exact ⟨hC.grown (Grows.alloc _ _), Grows.alloc _ _, isForms_one (anyS_all _) (hL.get 101 (.inl rfl) (by kernel_rfl) rfl rfl)⟩
        obtain ⟨_, _, _, _, rfl, -⟩ := hv
        simp only [Act.put, List.setIfInBounds_toArray, List.set_cons_zero, List.set_cons_succ, List.length_cons, List.length_nil, Nat.zero_add]
        refine walkR_rel (by kernel_rfl) rfl rfl (of_decide_eq_true (by kernel_rfl)) (fun wx hC hL => ?_) (fun v hv => ?_)
        · go_simp
          exact rel_node hC (i64_small (by omega) (by omega)) (hL.get 102 (.inl rfl) (by kernel_rfl) rfl rfl)
        obtain ⟨_, _, hv⟩ := hv
        obtain ⟨_, _, _, _, rfl, -⟩ := FormIn.form hv
        clear hv
        simp only [Act.put, List.setIfInBounds_toArray, List.set_cons_zero, List.set_cons_succ, Tree.op_node, Tree.name_node, Tree.args_node, List.length_cons, List.length_nil, Nat.zero_add]
        repeat (
          refine' walkR_plain (by kernel_rfl) rfl rfl (fun wx hC hL => ?_) ?_
          rotate_left
          · (go_simp; exact ⟨rfl, rfl⟩)
          simp only [Act.put, List.setIfInBounds_toArray, List.set_cons_zero, List.set_cons_succ])
        refine walkR_rel (by kernel_rfl) rfl rfl (of_decide_eq_true (by kernel_rfl)) (fun wx hC hL => ?_) (fun v hv => ?_)
        · go_simp
          exact rel_eval hC (hL.get 103 (.inl rfl) (by kernel_rfl) rfl rfl) hlen' HY.out E10.out
        obtain ⟨_, _, rfl⟩ := hv
        simp only [Act.put, List.setIfInBounds_toArray, List.set_cons_zero, List.set_cons_succ]
        repeat (
          refine' walkR_plain (by kernel_rfl) rfl rfl (fun wx hC hL => ?_) ?_
          rotate_left
          · (go_simp; exact ⟨rfl, rfl⟩)
          simp only [Act.put, List.setIfInBounds_toArray, List.set_cons_zero, List.set_cons_succ])
        refine walkR_rel (by kernel_rfl) rfl rfl (of_decide_eq_true (by kernel_rfl)) (fun wx hC hL => ?_) (fun v hv => ?_)
        · go_simp
          exact ⟨hC.grown (Grows.alloc _ _), Grows.alloc _ _, isForms_one (anyS_all _) (hC.form HXG.out.form.free)⟩
        obtain ⟨_, _, _, _, rfl, -⟩ := hv
        simp only [Act.put, List.setIfInBounds_toArray, List.set_cons_zero, List.set_cons_succ, List.length_cons, List.length_nil, Nat.zero_add]
        refine walkR_rel (by kernel_rfl) rfl rfl (of_decide_eq_true (by kernel_rfl)) (fun wx hC hL => ?_) (fun v hv => ?_)
        · go_simp
          exact rel_node hC (i64_small (by omega) (by omega)) (hL.get 108 (.inl rfl) (by kernel_rfl) rfl rfl)
        obtain ⟨_, _, hv⟩ := hv
        obtain ⟨_, _, _, _, rfl, -⟩ := FormIn.form hv
        clear hv
        simp only [Act.put, List.setIfInBounds_toArray, List.set_cons_zero, List.set_cons_succ, Tree.op_node, Tree.name_node, Tree.args_node, List.length_cons, List.length_nil, Nat.zero_add]
        refine walkR_rel (by kernel_rfl) rfl rfl (of_decide_eq_true (by kernel_rfl)) (fun wx hC hL => ?_) (fun v hv => ?_)
        · go_simp
          exact ⟨hC.grown (Grows.alloc _ _), Grows.alloc _ _, isForms_two (anyS_all _) (hC.form HXN.out.form.free) (hL.get 109 (.inl rfl) (by kernel_rfl) rfl rfl)⟩
        obtain ⟨_, _, _, _, rfl, -⟩ := hv
        simp only [Act.put, List.setIfInBounds_toArray, List.set_cons_zero, List.set_cons_succ, List.length_cons, List.length_nil, Nat.zero_add, Nat.reduceAdd]
        refine walkR_rel (by kernel_rfl) rfl rfl (of_decide_eq_true (by kernel_rfl)) (fun wx hC hL => ?_) (fun v hv => ?_)
        · go_simp
          exact rel_node hC (i64_small (by omega) (by omega)) (hL.get 110 (.inl rfl) (by kernel_rfl) rfl rfl)
        obtain ⟨_, _, hv⟩ := hv
        obtain ⟨_, _, _, _, rfl, -⟩ := FormIn.form hv
        clear hv
        simp only [Act.put, List.setIfInBounds_toArray, List.set_cons_zero, List.set_cons_succ, Tree.op_node, Tree.name_node, Tree.args_node, List.length_cons, List.length_nil, Nat.zero_add, Nat.reduceAdd]
        repeat (
          refine' walkR_plain (by kernel_rfl) rfl rfl (fun wx hC hL => ?_) ?_
          rotate_left
          · (go_simp; exact ⟨rfl, rfl⟩)
          simp only [Act.put, List.setIfInBounds_toArray, List.set_cons_zero, List.set_cons_succ])
        refine walkR_rel (by kernel_rfl) rfl rfl (of_decide_eq_true (by kernel_rfl)) (fun wx hC hL => ?_) (fun v hv => ?_)
        · go_simp
          exact rel_eval hC (hL.get 111 (.inl rfl) (by kernel_rfl) rfl rfl) hlen' HY.out E11.out
        obtain ⟨_, _, rfl⟩ := hv
        simp only [Act.put, List.setIfInBounds_toArray, List.set_cons_zero, List.set_cons_succ]
        repeat (
          refine' walkR_plain (by kernel_rfl) rfl rfl (fun wx hC hL => ?_) ?_
          rotate_left
          · (go_simp; exact ⟨rfl, rfl⟩)
          simp only [Act.put, List.setIfInBounds_toArray, List.set_cons_zero, List.set_cons_succ])
        refine fun w9 hE9 _ => ?_
        go_wp2_with fail
        go_roundw
        case rel => exact ⟨k + 1, q6, by omega, by go_num, HXF.out.go hE9, HXG.out.go hE9, HXN.out.go hE9, HS6.out.grow (only_of_below hE9 none), HB6.out.trans (Below.mono hE9 HB6.out.size)⟩
        case measure => simp [intOf]; omega
    · go_wp2_with fail
      refine (awake2_any wr (HSG.out.go hbel.out)).mono ?_
      rintro e w7 ⟨rfl, hb7⟩
      have HB7 := hidIt (hbel.out.trans (hb7.mono hbel.out.size))
      clear hb7
      go_wp2_with fail
      go_ret
      exact ⟨rfl, HB7.out⟩
end Go.Proofs.YthhhkjfdpafhaaaDoor
