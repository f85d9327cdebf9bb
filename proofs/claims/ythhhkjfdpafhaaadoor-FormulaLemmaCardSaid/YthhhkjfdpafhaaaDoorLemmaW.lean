/- The law FormulaLemma: the call answers true for every list of numbers. -/
import Derived.Test.YthhhkjfdpafhaaaDoorLawsB
import Derived.Test.YthhhkjfdpafhaaaDoorSubst2
namespace Go.Proofs.YthhhkjfdpafhaaaDoor
open Go Go.RowKit

/-- Substitute in the walk. -/
theorem rel_subst {W w : World} (hC : Ext W w) {p : ByteArray} {f g : Tree} (hf : f.nodes ≤ 1000000) (hg : g.nodes ≤ 1000000) {v vg : Value} (h : FormAt w none v f) (h' : FormAt w none vg g) :
    Calls Tryd.prog 31 #[v, .string p, vg] w fun e w'' => ∃ u, e = .returned u ∧ Ext W w'' ∧ Grows w w'' ∧ isForm anyS (substT p g f) u w'' :=
  rel_call hC ((subst_any p g hg f hf v vg w h h').mono fun _ _ ⟨_, _, _, _, _, he, hfm, hb⟩ => ⟨_, he, FormIn.mono hfm (fun _ _ _ => anyS_all _), hb⟩)

/-- Those of the first j names that are not p. -/
def sansP (l : List ByteArray) (p : ByteArray) (j : Nat) : List ByteArray := (l.take j).filter fun x => x.data.toList != p.data.toList
theorem sansP_yes {l : List ByteArray} {p : ByteArray} {j : Nat} (h : j < l.length) (hx : l[j] ≠ p) : sansP l p (j + 1) = sansP l p j ++ [l[j]] := by
  unfold sansP
  rw [take_snoc' l j h, List.filter_append]
  congr 1
  rw [List.filter_cons_of_pos]
  · rfl
  · rw [bne_iff_ne]
    exact fun e => hx (bytes_inj e)
theorem sansP_no {l : List ByteArray} {p : ByteArray} {j : Nat} (h : j < l.length) (hx : l[j] = p) : sansP l p (j + 1) = sansP l p j := by
  unfold sansP
  rw [take_snoc' l j h, List.filter_append]
  rw [List.filter_cons_of_neg (by simp [hx])]
  simp
theorem sansP_len (l : List ByteArray) (p : ByteArray) (j : Nat) : (sansP l p j).length ≤ l.length := by
  unfold sansP
  have h1 := List.length_filter_le (fun x : ByteArray => x.data.toList != p.data.toList) (l.take j)
  rw [List.length_take] at h1
  omega
theorem sansP_all (l : List ByteArray) (p : ByteArray) (b : Bool) : withP l p b = sansP l p l.length ++ (if b then [p] else []) := by
  unfold withP sansP
  rw [List.take_length]

theorem below_over {w1 w wa w' : World} {row : Option Nat} (h : Below w1.heap.size w1 w) (ha : Below w.heap.size w wa) (hg : wa.grownBy w' row) (hr : ∀ g, row = some g → w1.heap.size ≤ g) : Below w1.heap.size w1 w' :=
  have h2 := h.trans (Below.mono ha h.size)
  ⟨hg.os.trans h2.os, hg.tape.trans h2.tape, hg.output.trans h2.output, Nat.le_trans h2.size hg.size, fun i hi => (hg.block i (Nat.lt_of_lt_of_le hi h2.size) (fun e => by have := hr i e.symm; omega)).trans (h2.block i hi)⟩

set_option maxRecDepth 100000 in
set_option maxHeartbeats 2000000 in
theorem lemma_walk (v : Value) (zs : List Int) (w : World) (hz : IntsAt w w.heap.size v zs) (hsg : SignsAt w) : Calls Tryd.prog 6 #[v] w fun e w' => e = .returned (.bool true) ∧ Below w.heap.size w w' := by
  have HSG := hidIt hsg
  have HZ := hidIt hz
  clear hsg hz
  go_enter Tryd.func6, Tryd.ntmps6
  go_wp2_with fail
  refine (new_any v zs w.heap.size w HZ.out (Nat.le_refl _)).mono ?_
  rintro e w1 ⟨zs1, rfl, hs1, o1, hw1⟩
  have HS1 := hidIt hs1
  have HB1 : Hid (Below w.heap.size w w1) := by rw [hw1]; exact (Below.refl _ _).alloc (Nat.le_refl _) _
  have hsz1 : w.heap.size < w1.heap.size := hs1.lt
  clear hs1 hw1 HZ
  go_wp2_with fail
  refine (sform_any 4 (by omega) (by omega) 3 (by omega) _ _ zs1 0 w1 HS1.out).mono ?_
  rintro e w2 ⟨f, fo, fs, fa, fm, fc, q2, rfl, hf1, hfd, hf3, hs2, hg2⟩
  have HS2 := hidIt hs2
  have HG2 := hidIt hg2
  have HF2 := hidIt hf3
  have HWF := hidIt (wellF_gen hf1)
  have HNF : Hid (f.nodes ≤ 1000000) := Nat.le_trans (gen_nodes f 3 hf1 hfd) (by decide)
  have hsz2 : w1.heap.size ≤ w2.heap.size := hg2.size
  clear hf1 hfd hf3 hs2 hg2 HS1
  go_wp2_with fail
  refine (sform_any 4 (by omega) (by omega) 3 (by omega) _ _ zs1 q2 w2 HS2.out).mono ?_
  rintro e w3 ⟨g, go, gs, ga, gm, gc, q3, rfl, hf1, hfd, hf3, hs3, hg3⟩
  have HG3 := hidIt hg3
  have HWG := hidIt (wellF_gen hf1)
  have HNG : Hid (g.nodes ≤ 1000000) := Nat.le_trans (gen_nodes g 3 hf1 hfd) (by decide)
  have hsz3 : w2.heap.size ≤ w3.heap.size := hg3.size
  have HFA : FormAt w3 (some w.heap.size) (.agg #[.int .i64 fo, .string fs, .slice fa fm fc]) f := FormAt.kept (FormIn.mono HF2.out (fun i _ hi e => by injection e with e; omega)) hg3
  have HGA : FormAt w3 (some w.heap.size) (.agg #[.int .i64 go, .string gs, .slice ga gm gc]) g := FormIn.mono hf3 (fun i _ hi e => by injection e with e; omega)
  have hb5 : Below w3.heap.size w3 ((w3.alloc (.cells #[.int .i64 fo, .string fs, .slice fa fm fc] 24)).alloc (.cells #[.int .i64 go, .string gs, .slice ga gm gc] 24)) := ((Below.refl _ _).alloc (Nat.le_refl _) _).alloc (by simp) _
  have HXF : Hid (FBox ((w3.alloc (.cells #[.int .i64 fo, .string fs, .slice fa fm fc] 24)).alloc (.cells #[.int .i64 go, .string gs, .slice ga gm gc] 24)) w.heap.size w3.heap.size fo fs fa fm fc f) := ⟨by omega, blk_kept (heap_alloc_new w3 _) (Grows.alloc _ _), FormIn.go HFA hb5⟩
  have HXG : Hid (FBox ((w3.alloc (.cells #[.int .i64 fo, .string fs, .slice fa fm fc] 24)).alloc (.cells #[.int .i64 go, .string gs, .slice ga gm gc] 24)) w.heap.size (w3.heap.size + 1) go gs ga gm gc g) := ⟨by omega, heap_alloc_at (by simp), FormIn.go HGA hb5⟩
  have HS4 : Hid (SrcAt ((w3.alloc (.cells #[.int .i64 fo, .string fs, .slice fa fm fc] 24)).alloc (.cells #[.int .i64 go, .string gs, .slice ga gm gc] 24)) w.heap.size w.heap.size zs1 q3) := hs3.grow (only_of_below hb5 none)
  have HBL : Hid (Below w.heap.size w ((w3.alloc (.cells #[.int .i64 fo, .string fs, .slice fa fm fc] 24)).alloc (.cells #[.int .i64 go, .string gs, .slice ga gm gc] 24))) := below_of_only (b := w.heap.size) (only_trans (only_trans (only_trans (only_of_below HB1.out _) HG2.out) hg3) (only_of_below hb5 _)) (Nat.le_refl _)
  clear hf1 hfd hf3 hs3 hg3 HS2 HFA HGA hb5 HG2 HF2 HB1
  go_wp2_with fail
  generalize ((w3.alloc (.cells #[.int .i64 fo, .string fs, .slice fa fm fc] 24)).alloc (.cells #[.int .i64 go, .string gs, .slice ga gm gc] 24)) = w5 at *
  generalize w3.heap.size = pf at *
  clear hsz1 hsz2 hsz3 HG3
  go_loopw [6] (fun i wr => ∃ k q : Nat, k ≤ 4 ∧ i = .int .i64 k ∧ Hid (FBox wr w.heap.size pf fo fs fa fm fc f) ∧ Hid (FBox wr w.heap.size (pf + 1) go gs ga gm gc g) ∧ Hid (SrcAt wr w.heap.size w.heap.size zs1 q) ∧ Hid (Below w.heap.size w wr)) (fun i _ => 4 - (intOf i).toNat)
  case atStart => exact ⟨0, q3, by omega, rfl, HXF, HXG, HS4, HBL⟩
  case round =>
    clear HXF HXG HS4 HBL
    obtain ⟨k, q, hk, rfl, hxf, hxg, hsrc, hbel⟩ := hrel
    by_cases hlt : k < 4
    · go_wp2_with fail
      refine (sn_nat 4 (by omega) (by omega) w.heap.size w.heap.size zs1 q _ hsrc.out).mono ?_
      rintro e w6 ⟨m, q6, rfl, hm, hs6, hg6⟩
      have hcv := conv_letter m (by omega) w6 (97 + (m : Int)) rfl
      have HS6 := hidIt (hs6.alloc (.cells #[.int .u8 (97 + (m : Int))] 5))
      have HXF := hidIt ((hxf.out.kept hg6).go (Grows.alloc w6 (.cells #[.int .u8 (97 + (m : Int))] 5)))
      have HXG := hidIt ((hxg.out.kept hg6).go (Grows.alloc w6 (.cells #[.int .u8 (97 + (m : Int))] 5)))
      have HB6 : Hid (Below w.heap.size w (w6.alloc (.cells #[.int .u8 (97 + (m : Int))] 5))) := below_of_only (b := w.heap.size) (only_alloc (only_trans (only_of_below hbel.out _) hg6) _) (Nat.le_refl _)
      clear hs6 hg6 hxf hxg hsrc hbel
      go_wp2_with fail
      refine (yes_any 4 (by omega) w.heap.size w.heap.size zs1 q6 _ HS6.out).mono ?_
      rintro e w7 ⟨yv, l, q7, rfl, hown, hlen, -, hs7, hg7⟩
      have hls : Hid (∀ s ∈ l, s.size ≤ maxLen) := hown.2
      obtain ⟨ya, yc, rfl, -, -, hyes⟩ := hown.form
      have HY7 := hidIt (StrsIn.mono (S' := fun _ => True) hyes (fun _ _ _ => trivial))
      have HS7 := hidIt hs7
      have HXF7 := hidIt (HXF.out.kept hg7)
      have HXG7 := hidIt (HXG.out.kept hg7)
      have HB7 := hidIt (below_of_only (b := w.heap.size) (only_trans (only_of_below HB6.out _) hg7) (Nat.le_refl _))
      have hlen' : l.length ≤ 1000000 := by omega
      clear hown hs7 hg7 hyes HXF HXG HS6 HB6 hcv
      go_wp2_with fail
      go_loopw [9, 32] (fun o i wq => ∃ j : Nat, j ≤ l.length ∧ i = .int .i64 j ∧ Hid (OwnS wq w7.heap.size o (sansP l (letter m) j)) ∧ Hid (Below w7.heap.size w7 wq)) (fun _ i _ => l.length - (intOf i).toNat)
      case atStart => exact ⟨0, Nat.zero_le _, rfl, OwnS.nil _ _, Below.refl _ _⟩
      case round =>
        obtain ⟨j, hj, rfl, hown, hbq⟩ := hrel
        by_cases hjl : j < l.length
        · obtain ⟨b1, o1, rfl, p0, hsz⟩ := (HY7.out.go hbq.out).at j hjl
          have hyes' := fun h => sansP_yes (l := l) (p := letter m) (j := j) hjl h
          have hno' := fun h => sansP_no (l := l) (p := letter m) (j := j) hjl h
          have hpl := sansP_len l (letter m) j
          generalize l[j] = s at *
          cases hs : (s.toList == (letter m).toList)
          · have HS : Hid (sansP l (letter m) (j + 1) = sansP l (letter m) j ++ [s]) := hyes' (fun e => by rw [e] at hs; simp at hs)
            have hbw : w7.heap.size ≤ (wr.alloc (.cells #[.string s] 9)).heap.size := by have := hbq.out.size; simp; omega
            have HNW := hidIt (heap_alloc_new wr (.cells #[.string s] 9))
            have HO3 := hidIt (hown.out.alloc (.cells #[.string s] 9))
            have HBW := hidIt hbw
            have HSZ := hidIt hsz
            have HOB := hidIt hown.out.block
            clear hbw hyes' hno'
            go_wp2_with (at_builtin; refine wpList_append_str rfl _ _ rfl w7.heap.size _ (sansP l (letter m) j) rfl HO3.out _ 1 rfl HNW.out HSZ.out (by omega) HBW.out ?_)
            intro v' w8 ho8 hg8
            have HO8 := hidIt ho8
            have HB8 : Hid (Below w7.heap.size w7 w8) := (below_over hbq.out (Grows.alloc wr _) hg8 (fun g e => (HOB.out g e).1))
            clear ho8 hg8
            go_wp2_with fail
            go_roundw
            case rel => exact ⟨j + 1, by omega, by go_num, by rw [HS.out]; exact HO8, HB8⟩
            case measure => simp [intOf]; omega
          · have HS : Hid (sansP l (letter m) (j + 1) = sansP l (letter m) j) := hno' (by
              have h1 := eq_of_beq hs
              rw [Lib.toList_data, Lib.toList_data] at h1
              exact bytes_inj h1)
            clear hyes' hno'
            go_wp2_with fail
            go_roundw
            case rel => exact ⟨j + 1, by omega, by go_num, by rw [HS.out]; exact hown, hbq⟩
            case measure => simp [intOf]; omega
        · obtain rfl : j = l.length := by omega
          have HXF8 := hidIt (HXF7.out.go hbq.out)
          have HXG8 := hidIt (HXG7.out.go hbq.out)
          have HS8 := hidIt (HS7.out.grow (only_of_below hbq.out none))
          have HY8 := hidIt (HY7.out.go hbq.out)
          have HB8 : Hid (Below w.heap.size w wr) := HB7.out.trans (hbq.out.mono HB7.out.size)
          obtain ⟨e0, e1, e2⟩ := cell_of3 HXG8.out.blk
          have hbg := hbq.out.size
          go_wp2_with fail
          refine (eval_any g _ ya yc l hlen' wr HXG8.out.form.free HY8.out).mono ?_
          rintro e w9 ⟨rfl, hb9⟩
          have HXF9 := hidIt (HXF8.out.go hb9)
          have HXG9 := hidIt (HXG8.out.go hb9)
          have HS9 := hidIt (HS8.out.grow (only_of_below hb9 none))
          have HY9 := hidIt (HY8.out.go hb9)
          have HB9 : Hid (Below w.heap.size w w9) := HB8.out.trans (hb9.mono HB8.out.size)
          have HO9 := hidIt (hown.out.go hb9)
          have hbg9 : w7.heap.size ≤ w9.heap.size := Nat.le_trans hbg hb9.size
          have hb79 : Below w7.heap.size w7 w9 := hbq.out.trans (hb9.mono hbq.out.size)
          obtain ⟨b, hb⟩ : ∃ b, evalB g l = b := ⟨_, rfl⟩
          have HEB := hidIt hb
          rw [hb]
          clear hb hb9 hown hbq HXF8 HXG8 HS8 HY8 HB8 e0 e1 e2
          cases b
          · go_wp2_with fail
            obtain ⟨wa, wc, rfl, -, -, hwith⟩ := HO9.out.form
            have HWT := hidIt (StrsIn.mono (S' := fun _ => True) hwith (fun _ _ _ => trivial))
            obtain ⟨c0, c1, c2⟩ := cell_of3 HXF9.out.blk
            obtain ⟨d0, d1, d2⟩ := cell_of3 HXG9.out.blk
            have KF0 := ext_cell c0
            have KF1 := ext_cell c1
            have KF2 := ext_cell c2
            have KG0 := ext_cell d0
            have KG1 := ext_cell d1
            have KG2 := ext_cell d2
            have hwl : (sansP l (letter m) l.length).length ≤ 1000000 := by have := sansP_len l (letter m) l.length; omega
            obtain ⟨cv, hcv2⟩ : ∃ cv, evalB f (sansP l (letter m) l.length) = cv := ⟨_, rfl⟩
            have HCV := hidIt hcv2
            have HEV : Hid (evalB (substT (letter m) g f) l = cv) := by show _ = _; rw [subst_eval (letter m) f g l HWF.out HWG.out, HEB.out, sansP_all, ← HCV.out, if_neg Bool.false_ne_true, List.append_nil]
            clear hwith c0 c1 c2 d0 d1 d2 hcv2
            generalize sansP l (letter m) l.length = L at *
            have hcc : (cv != cv) = false := bne_self_eq_false cv
            refine wp_region_rel (Ext w9) Grows (relTab [(54, isForm anyS (substT (letter m) g f)), (56, isB cv), (59, isB cv)]) (by kernel_rfl) (by kernel_rfl) (by kernel_rfl) (stable_cons (isForm_up _ _) (stable_cons (isB_up _) (stable_cons (isB_up _) (stable_nil _)))) (Ext.start w9) ?_
            repeat (
              refine' walkR_plain (by kernel_rfl) rfl rfl (fun wx hC hL => ?_) ?_
              rotate_left
              · (go_simp; exact ⟨rfl, rfl⟩)
              simp only [Act.put, List.setIfInBounds_toArray, List.set_cons_zero, List.set_cons_succ])
            refine walkR_rel (by kernel_rfl) rfl rfl (of_decide_eq_true (by kernel_rfl)) (fun wx hC hL => ?_) (fun v hv => ?_)
            · go_simp
              exact rel_subst hC HNF.out HNG.out (hC.form HXF9.out.form.free) (hC.form HXG9.out.form.free)
            obtain ⟨_, _, hv⟩ := hv
            obtain ⟨_, _, _, _, rfl, -⟩ := FormIn.form hv
            clear hv
            simp only [Act.put, List.setIfInBounds_toArray, List.set_cons_zero, List.set_cons_succ]
            repeat (
              refine' walkR_plain (by kernel_rfl) rfl rfl (fun wx hC hL => ?_) ?_
              rotate_left
              · (go_simp; exact ⟨rfl, rfl⟩)
              simp only [Act.put, List.setIfInBounds_toArray, List.set_cons_zero, List.set_cons_succ])
            refine walkR_rel (by kernel_rfl) rfl rfl (of_decide_eq_true (by kernel_rfl)) (fun wx hC hL => ?_) (fun v hv => ?_)
            · go_simp
              exact rel_eval hC (hL.get 54 (.inl rfl) (by kernel_rfl) rfl rfl) hlen' HY9.out HEV.out
            obtain ⟨_, _, rfl⟩ := hv
            simp only [Act.put, List.setIfInBounds_toArray, List.set_cons_zero, List.set_cons_succ]
            repeat (
              refine' walkR_plain (by kernel_rfl) rfl rfl (fun wx hC hL => ?_) ?_
              rotate_left
              · (go_simp; exact ⟨rfl, rfl⟩)
              simp only [Act.put, List.setIfInBounds_toArray, List.set_cons_zero, List.set_cons_succ])
            refine walkR_rel (by kernel_rfl) rfl rfl (of_decide_eq_true (by kernel_rfl)) (fun wx hC hL => ?_) (fun v hv => ?_)
            · go_simp
              exact rel_eval hC (hC.form HXF9.out.form.free) hwl HWT.out HCV.out
            obtain ⟨_, _, rfl⟩ := hv
            simp only [Act.put, List.setIfInBounds_toArray, List.set_cons_zero, List.set_cons_succ]
            repeat (
              refine' walkR_plain (by kernel_rfl) rfl rfl (fun wx hC hL => ?_) ?_
              rotate_left
              · (go_simp; exact ⟨rfl, rfl⟩)
              simp only [Act.put, List.setIfInBounds_toArray, List.set_cons_zero, List.set_cons_succ])
            refine fun w20 hE20 _ => ?_
            go_wp2_with fail
            go_roundw
            case rel => exact ⟨k + 1, q7, by omega, by go_num, HXF9.out.go hE20, HXG9.out.go hE20, HS9.out.grow (only_of_below hE20 none), HB9.out.trans (Below.mono hE20 HB9.out.size)⟩
            case measure => simp [intOf]; omega
          · have hbw : w7.heap.size ≤ (w9.alloc (.cells #[.string (letter m)] 9)).heap.size := by simp; omega
            have HNW := hidIt (heap_alloc_new w9 (.cells #[.string (letter m)] 9))
            have HO3 := hidIt (HO9.out.alloc (.cells #[.string (letter m)] 9))
            have HBW := hidIt hbw
            have HOB := hidIt HO9.out.block
            have hpl := sansP_len l (letter m) l.length
            clear hbw
            go_wp2_with (at_builtin; refine wpList_append_str rfl _ _ rfl w7.heap.size _ (sansP l (letter m) l.length) rfl HO3.out _ 1 rfl HNW.out (by rw [letter_size]; unfold maxLen; omega) (by omega) HBW.out ?_)
            intro v10 w10 ho10 hg10
            have hb10 : Below w9.heap.size w9 w10 ∨ True := .inr trivial
            have HO10 := hidIt ho10
            have hB10 : Below w7.heap.size w7 w10 := below_over hb79 (Grows.alloc w9 _) hg10 (fun g e => (HOB.out g e).1)
            have HXF10 := hidIt (HXF7.out.go hB10)
            have HXG10 := hidIt (HXG7.out.go hB10)
            have HS10 := hidIt (HS7.out.grow (only_of_below hB10 none))
            have HY10 := hidIt (HY7.out.go hB10)
            have HB10 : Hid (Below w.heap.size w w10) := HB7.out.trans (hB10.mono HB7.out.size)
            clear ho10 hg10 hB10 hb10 HXF9 HXG9 HS9 HY9 HB9 HO9 HO3 HNW
            go_wp2_with fail
            obtain ⟨wa, wc, rfl, -, -, hwith⟩ := HO10.out.form
            have HWT := hidIt (StrsIn.mono (S' := fun _ => True) hwith (fun _ _ _ => trivial))
            obtain ⟨c0, c1, c2⟩ := cell_of3 HXF10.out.blk
            obtain ⟨d0, d1, d2⟩ := cell_of3 HXG10.out.blk
            have KF0 := ext_cell c0
            have KF1 := ext_cell c1
            have KF2 := ext_cell c2
            have KG0 := ext_cell d0
            have KG1 := ext_cell d1
            have KG2 := ext_cell d2
            have hwl : (sansP l (letter m) l.length ++ [letter m]).length ≤ 1000000 := by have := sansP_len l (letter m) l.length; simp; omega
            obtain ⟨cv, hcv2⟩ : ∃ cv, evalB f (sansP l (letter m) l.length ++ [letter m]) = cv := ⟨_, rfl⟩
            have HCV := hidIt hcv2
            have HEV : Hid (evalB (substT (letter m) g f) l = cv) := by show _ = _; rw [subst_eval (letter m) f g l HWF.out HWG.out, HEB.out, sansP_all, ← HCV.out, if_pos rfl]
            clear hwith c0 c1 c2 d0 d1 d2 hcv2
            generalize (sansP l (letter m) l.length ++ [letter m]) = L at *
            have hcc : (cv != cv) = false := bne_self_eq_false cv
            refine wp_region_rel (Ext w10) Grows (relTab [(54, isForm anyS (substT (letter m) g f)), (56, isB cv), (59, isB cv)]) (by kernel_rfl) (by kernel_rfl) (by kernel_rfl) (stable_cons (isForm_up _ _) (stable_cons (isB_up _) (stable_cons (isB_up _) (stable_nil _)))) (Ext.start w10) ?_
            repeat (
              refine' walkR_plain (by kernel_rfl) rfl rfl (fun wx hC hL => ?_) ?_
              rotate_left
              · (go_simp; exact ⟨rfl, rfl⟩)
              simp only [Act.put, List.setIfInBounds_toArray, List.set_cons_zero, List.set_cons_succ])
            refine walkR_rel (by kernel_rfl) rfl rfl (of_decide_eq_true (by kernel_rfl)) (fun wx hC hL => ?_) (fun v hv => ?_)
            · go_simp
              exact rel_subst hC HNF.out HNG.out (hC.form HXF10.out.form.free) (hC.form HXG10.out.form.free)
            obtain ⟨_, _, hv⟩ := hv
            obtain ⟨_, _, _, _, rfl, -⟩ := FormIn.form hv
            clear hv
            simp only [Act.put, List.setIfInBounds_toArray, List.set_cons_zero, List.set_cons_succ]
            repeat (
              refine' walkR_plain (by kernel_rfl) rfl rfl (fun wx hC hL => ?_) ?_
              rotate_left
              · (go_simp; exact ⟨rfl, rfl⟩)
              simp only [Act.put, List.setIfInBounds_toArray, List.set_cons_zero, List.set_cons_succ])
            refine walkR_rel (by kernel_rfl) rfl rfl (of_decide_eq_true (by kernel_rfl)) (fun wx hC hL => ?_) (fun v hv => ?_)
            · go_simp
              exact rel_eval hC (hL.get 54 (.inl rfl) (by kernel_rfl) rfl rfl) hlen' HY10.out HEV.out
            obtain ⟨_, _, rfl⟩ := hv
            simp only [Act.put, List.setIfInBounds_toArray, List.set_cons_zero, List.set_cons_succ]
            repeat (
              refine' walkR_plain (by kernel_rfl) rfl rfl (fun wx hC hL => ?_) ?_
              rotate_left
              · (go_simp; exact ⟨rfl, rfl⟩)
              simp only [Act.put, List.setIfInBounds_toArray, List.set_cons_zero, List.set_cons_succ])
            refine walkR_rel (by kernel_rfl) rfl rfl (of_decide_eq_true (by kernel_rfl)) (fun wx hC hL => ?_) (fun v hv => ?_)
            · go_simp
              exact rel_eval hC (hC.form HXF10.out.form.free) hwl HWT.out HCV.out
            obtain ⟨_, _, rfl⟩ := hv
            simp only [Act.put, List.setIfInBounds_toArray, List.set_cons_zero, List.set_cons_succ]
            repeat (
              refine' walkR_plain (by kernel_rfl) rfl rfl (fun wx hC hL => ?_) ?_
              rotate_left
              · (go_simp; exact ⟨rfl, rfl⟩)
              simp only [Act.put, List.setIfInBounds_toArray, List.set_cons_zero, List.set_cons_succ])
            refine fun w20 hE20 _ => ?_
            go_wp2_with fail
            go_roundw
            case rel => exact ⟨k + 1, q7, by omega, by go_num, HXF10.out.go hE20, HXG10.out.go hE20, HS10.out.grow (only_of_below hE20 none), HB10.out.trans (Below.mono hE20 HB10.out.size)⟩
            case measure => simp [intOf]; omega
    · go_wp2_with fail
      refine (awake2_any wr (HSG.out.go hbel.out)).mono ?_
      rintro e w7 ⟨rfl, hb7⟩
      have HB7 := hidIt (hbel.out.trans (hb7.mono hbel.out.size))
      clear hb7
      go_wp2_with fail
      go_ret
      exact ⟨rfl, HB7.out⟩
end Go.Proofs.YthhhkjfdpafhaaaDoor
