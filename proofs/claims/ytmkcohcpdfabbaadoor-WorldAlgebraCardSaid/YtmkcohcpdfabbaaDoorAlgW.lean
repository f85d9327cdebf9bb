/- The law WorldAlgebra: the call answers true for every list of numbers. -/
import Derived.Test.YtmkcohcpdfabbaaDoorWorld
import Derived.Test.YtmkcohcpdfabbaaDoorOnes
namespace Go.Proofs.YtmkcohcpdfabbaaDoor
set_option linter.unusedVariables false
set_option linter.unusedSimpArgs false
open Go Go.RowKit

/-- Entails at valid formulas. -/
theorem ent_at5 {n : Nat} (hn : n ≤ 6) {f g : Tree} (hf : GoodF n f) (hg : GoodF n g) {va : Option Addr} (vc : Nat) {vf vg : Value} {w : World} {S : Nat → Prop} (hvf : FormAt w none vf f) (hvg : FormAt w none vg g) (hs : StrsIn w S va (vocL n)) :
    Calls Tryd.prog 38 #[.slice va n vc, vf, vg] w fun e w' => e = .returned (.tuple #[.bool (decide (modM n f &&& ~~~(modM n g) = 0#64)), .int .i64 0]) ∧ Below w.heap.size w w' := by
  have h1 := entails_any (vocL n) va vc (by rw [vocL_len]; omega) f g vf vg w hvf hvg (hs.mono fun _ _ _ => trivial)
  have hE : entE (vocL n) f g = 0 := by unfold entE; rw [if_pos (hf.modE hn), hg.modE hn]
  have hB : entB (vocL n) f g = decide (modM n f &&& ~~~(modM n g) = 0#64) := by unfold entB; rw [if_pos hE, hf.modS hn, hg.modS hn]; rfl
  rw [vocL_len, hE, hB] at h1
  exact h1

theorem good_two {n d : Nat} {f g : Tree} (hf : f.all (nodeG n) = true ∧ f.depth ≤ d) (hg : g.all (nodeG n) = true ∧ g.depth ≤ d) (hd : d ≤ 4) {op : Int} (ho : (op = 5 ∨ op = 6) ∨ (op = 7 ∨ op = 8)) : GoodF n (.node op ⟨#[]⟩ [f, g]) := by
  have h1 := Parts.node (n := n) (d := d) (ts := [f, g]) (fun t ht => by
    rcases List.mem_cons.1 ht with rfl | ht
    · exact hf
    · rw [List.mem_singleton.1 ht]; exact hg) (op := op) (node_good (ho.elim (fun h => .inr (.inl ⟨h, by simp⟩)) (fun h => .inr (.inr ⟨h, by simp⟩))))
  exact goodF_gen h1.1 h1.2 (by omega)
theorem good_not {n d : Nat} {f : Tree} (hf : f.all (nodeG n) = true ∧ f.depth ≤ d) (hd : d ≤ 4) : GoodF n (.node 4 ⟨#[]⟩ [f]) := by
  have h1 := Parts.node (n := n) (d := d) (ts := [f]) (fun t ht => by rw [List.mem_singleton.1 ht]; exact hf) (op := 4) (node_good (.inl ⟨rfl, rfl⟩))
  exact goodF_gen h1.1 h1.2 (by omega)

theorem mod_not (n : Nat) (f : Tree) : modM n (.node 4 ⟨#[]⟩ [f]) = allS n &&& ~~~(modM n f) := set_ext fun j hj => by
  unfold modM
  simp only [BitVec.getLsbD_and, BitVec.getLsbD_not, modelsV_bit _ _ j hj, hj, decide_true, Bool.true_and]
  simp only [valueB, valuesB]
  cases valueB (atomAt (vocL n) j) f <;> cases (allS n).getLsbD j <;> simp
theorem mod_and (n : Nat) (f g : Tree) : modM n (.node 5 ⟨#[]⟩ [f, g]) = modM n f &&& modM n g := set_ext fun j hj => by
  unfold modM
  simp only [BitVec.getLsbD_and, modelsV_bit _ _ j hj]
  simp only [valueB, valuesB]
  cases valueB (atomAt (vocL n) j) f <;> cases valueB (atomAt (vocL n) j) g <;> cases (allS n).getLsbD j <;> simp
theorem mod_or (n : Nat) (f g : Tree) : modM n (.node 6 ⟨#[]⟩ [f, g]) = modM n f ||| modM n g := set_ext fun j hj => by
  unfold modM
  simp only [BitVec.getLsbD_and, BitVec.getLsbD_or, modelsV_bit _ _ j hj]
  simp only [valueB, valuesB]
  cases valueB (atomAt (vocL n) j) f <;> cases valueB (atomAt (vocL n) j) g <;> cases (allS n).getLsbD j <;> simp
theorem mod_imp (n : Nat) (f g : Tree) : modM n (.node 7 ⟨#[]⟩ [f, g]) = (allS n &&& ~~~(modM n f)) ||| modM n g := set_ext fun j hj => by
  unfold modM
  simp only [BitVec.getLsbD_and, BitVec.getLsbD_or, BitVec.getLsbD_not, modelsV_bit _ _ j hj, hj, decide_true, Bool.true_and]
  simp only [valueB, valuesB]
  cases valueB (atomAt (vocL n) j) f <;> cases valueB (atomAt (vocL n) j) g <;> cases (allS n).getLsbD j <;> simp
theorem mod_iff (n : Nat) (f g : Tree) : modM n (.node 8 ⟨#[]⟩ [f, g]) = allS n &&& ~~~(modM n f ^^^ modM n g) := set_ext fun j hj => by
  unfold modM
  simp only [BitVec.getLsbD_and, BitVec.getLsbD_xor, BitVec.getLsbD_not, modelsV_bit _ _ j hj, hj, decide_true, Bool.true_and]
  simp only [valueB, valuesB]
  cases valueB (atomAt (vocL n) j) f <;> cases valueB (atomAt (vocL n) j) g <;> cases (allS n).getLsbD j <;> simp

/-- The first of a row of two. -/
theorem FormsIn.first {w : World} {S : Nat → Prop} {a : Option Addr} {t u : Tree} (h : FormsIn w S a [t, u]) : FormsIn w S a [t] := by
  obtain ⟨b, off, ha, hc⟩ := h
  refine ⟨b, off, fun _ => ha (by simp), fun i hi => ?_⟩
  obtain rfl : i = 0 := by simpa using hi
  exact hc 0 (by simp)

set_option maxRecDepth 100000 in
set_option maxHeartbeats 8000000 in
theorem alg_walk (v : Value) (zs : List Int) (w : World) (hz : IntsAt w w.heap.size v zs) (hsg : SignsAt w) : Calls Tryd.prog 8 #[v] w fun e w' => e = .returned (.bool true) ∧ Below w.heap.size w w' := by
  have HSG := hidIt hsg
  have HZ := hidIt hz
  clear hsg hz
  go_enter Tryd.func8, Tryd.ntmps8
  go_wp2_with fail
  refine (new_any v zs w.heap.size w HZ.out (Nat.le_refl _)).mono ?_
  rintro e w1 ⟨zs1, rfl, hs1, o1, hw1⟩
  have HS1 := hidIt hs1
  have HB1 : Hid (Below w.heap.size w w1) := by rw [hw1]; exact (Below.refl _ _).alloc (Nat.le_refl _) _
  have hsz1 : w.heap.size < w1.heap.size := hs1.lt
  clear hs1 hw1 HZ
  go_wp2_with fail
  refine (voc_any 5 (by omega) w1).mono ?_
  rintro e w2 ⟨va, vc, rfl, hvlc, hvcm, hvs, hb2⟩
  have HS2 := hidIt (HS1.out.grow (only_of_below hb2 none))
  have HB2 := hidIt (HB1.out.trans (Below.mono hb2 HB1.out.size))
  have HV2 : Hid (StrsIn w2 (fun k => w.heap.size ≠ k) va (vocL 5)) := hvs.mono fun k _ hk => by omega
  have hsz2 : w1.heap.size ≤ w2.heap.size := hb2.size
  clear hvs hb2 HS1 HB1
  go_wp2_with fail
  refine (sform_any 5 (by omega) (by omega) 3 (by omega) _ _ zs1 0 w2 HS2.out).mono ?_
  rintro e w3 ⟨f, fo, fs, fa, fm, fc, q3, rfl, hf1, hf2, hf3, hs3, hg3⟩
  have HGF : Hid (f.all (nodeG 5) = true ∧ f.depth ≤ 3) := ⟨hf1, hf2⟩
  have HS3 := hidIt hs3
  have HB3 := hidIt (only_trans (only_of_below HB2.out (some w.heap.size)) hg3)
  have HV3 : Hid (StrsIn w3 (fun k => w.heap.size ≠ k) va (vocL 5)) := HV2.out.kept fun i hi hl => hg3.block i hl (fun e => by injection e with e; omega)
  have HF3 : Hid (FormAt w3 (some w.heap.size) (.agg #[.int .i64 fo, .string fs, .slice fa fm fc]) f) := hf3.mono (fun i _ hi e => by injection e with e; omega)
  have hsz3 : w2.heap.size ≤ w3.heap.size := hg3.size
  clear hf1 hf2 hf3 hs3 hg3 HS2 HB2 HV2
  go_wp2_with fail
  refine (sform_any 5 (by omega) (by omega) 3 (by omega) _ _ zs1 q3 w3 HS3.out).mono ?_
  rintro e w4 ⟨g, go, gs, ga, gm, gc, q4, rfl, hf1, hf2, hf4, hs4, hg4⟩
  have HGG : Hid (g.all (nodeG 5) = true ∧ g.depth ≤ 3) := ⟨hf1, hf2⟩
  have HB4 := hidIt (below_of_only (only_trans HB3.out hg4) (Nat.le_refl _))
  have HV4 : Hid (StrsIn w4 (fun k => w.heap.size ≠ k) va (vocL 5)) := HV3.out.kept fun i hi hl => hg4.block i hl (fun e => by injection e with e; omega)
  have HF4 := hidIt (FormAt.kept HF3.out hg4)
  have HG4 : Hid (FormAt w4 (some w.heap.size) (.agg #[.int .i64 go, .string gs, .slice ga gm gc]) g) := hf4.mono (fun i _ hi e => by injection e with e; omega)
  clear hf1 hf2 hf4 hs4 hg4 HS3 HB3 HV3 HF3
  unfold maxLen at hvcm
  go_wp2_with fail
  obtain ⟨W, hW⟩ : ∃ W : World, W = (((w4.alloc (.cells #[.int .i64 fo, .string fs, .slice fa fm fc] 24)).alloc (.cells #[.int .i64 go, .string gs, .slice ga gm gc] 24)).alloc (.cells #[.int .i64 fo, .string fs, .slice fa fm fc, .int .i64 go, .string gs, .slice ga gm gc] 24)) := ⟨_, rfl⟩
  have hbw : Below w4.heap.size w4 W := by rw [hW]; exact (((Below.refl _ _).alloc (Nat.le_refl _) _).alloc (by simp) _).alloc (by simp; omega) _
  have hbx : Below w4.heap.size w4 ((w4.alloc (.cells #[.int .i64 fo, .string fs, .slice fa fm fc] 24)).alloc (.cells #[.int .i64 go, .string gs, .slice ga gm gc] 24)) := ((Below.refl _ _).alloc (Nat.le_refl _) _).alloc (by simp) _
  have HKF : Hid (W.heap[w4.heap.size]? = some (.cells #[.int .i64 fo, .string fs, .slice fa fm fc] 24 (0, 0))) := by show _ = _; rw [hW]; exact blk_kept (blk_kept (heap_alloc_new w4 _) (Grows.alloc _ _)) (Grows.alloc _ _)
  have HKG : Hid (W.heap[w4.heap.size + 1]? = some (.cells #[.int .i64 go, .string gs, .slice ga gm gc] 24 (0, 0))) := by show _ = _; rw [hW]; exact blk_kept (heap_alloc_at (by simp)) (Grows.alloc _ _)
  have hr2 := isForms_two (S := anyS) (anyS_all _) (HF4.out.free.go hbx) (HG4.out.free.go hbx)
  rw [World.size_alloc, World.size_alloc, ← hW] at hr2
  obtain ⟨a2, c2, e, -, -, hr3⟩ := hr2
  injection e with e1 e2 e3
  subst e1 e3
  have HR := hidIt hr3
  have HF := hidIt (HF4.out.free.go hbw)
  have HG := hidIt (HG4.out.free.go hbw)
  have HV := hidIt (HV4.out.go hbw)
  have HB := hidIt (HB4.out.trans (Below.mono hbw HB4.out.size))
  have HW := hidIt hW
  have GF := hidIt (goodF_gen HGF.out.1 HGF.out.2 (by omega))
  have GG := hidIt (goodF_gen HGG.out.1 HGG.out.2 (by omega))
  have GN := hidIt (good_not HGF.out (by omega))
  have GA := hidIt (good_two HGF.out HGG.out (by omega) (op := 5) (.inl (.inl rfl)))
  have GO := hidIt (good_two HGF.out HGG.out (by omega) (op := 6) (.inl (.inr rfl)))
  have GI := hidIt (good_two HGF.out HGG.out (by omega) (op := 7) (.inr (.inl rfl)))
  have GE := hidIt (good_two HGF.out HGG.out (by omega) (op := 8) (.inr (.inr rfl)))
  clear hbw hbx hW HF4 HG4 HV4 HB4 HGF HGG hr3 hsz1 hsz2 hsz3 e2
  rw [← HW.out]
  clear HW
  have HMN := hidIt (mod_not 5 f)
  have HMA := hidIt (mod_and 5 f g)
  have HMO := hidIt (mod_or 5 f g)
  have HMI := hidIt (mod_imp 5 f g)
  have HME := hidIt (mod_iff 5 f g)
  have HSZ := hidIt (ones_both (modM 5 f) (by unfold modM; rw [BitVec.and_assoc, BitVec.and_self]))
  have hALL := fun (a : Option Addr) (c : Nat) (w : World) (S : Nat → Prop) (h : StrsIn w S a (vocL 5)) => wAll_any (vocL 5) (vocL_B 5 (by omega)) a c (by rw [vocL_len]; omega) w h
  rw [vocL_len] at hALL
  have HALL := hidIt hALL
  have HEY : Hid ((((modM 5 f &&& ~~~(modM 5 g)).toNat : Int) == 0) = decide (modM 5 f &&& ~~~(modM 5 g) = 0#64)) := eq_bv (modM 5 f &&& ~~~(modM 5 g)) 0#64
  have HEN := hidIt (fun (w : World) (va : Option Addr) (S : Nat → Prop) (vf vg : Value) (h1 : FormAt w none vf f) (h2 : FormAt w none vg g) (h3 : StrsIn w S va (vocL 5)) => ent_at5 (n := 5) (by omega) GF.out GG.out vc h1 h2 h3)
  clear hALL
  have hba := bits_and_bv (modM 5 f) (modM 5 g)
  have hbo := bits_or_bv (modM 5 f) (modM 5 g)
  have hbx := bits_xor_bv (modM 5 f) (modM 5 g)
  have hbn := bits_andNot_bv (allS 5) (modM 5 f)
  have hbe := bits_andNot_bv (modM 5 f) (modM 5 g)
  have hbi := bits_or_bv (allS 5 &&& ~~~(modM 5 f)) (modM 5 g)
  have hbj := bits_andNot_bv (allS 5) (modM 5 f ^^^ modM 5 g)
  have HMF := hidIt (fun (w : World) (va : Option Addr) (S : Nat → Prop) (vf : Value) (h1 : FormAt w none vf f) (h3 : StrsIn w S va (vocL 5)) => mod_at (n := 5) (by omega) GF.out vc h1 h3)
  have HMG := hidIt (fun (w : World) (va : Option Addr) (S : Nat → Prop) (vf : Value) (h1 : FormAt w none vf g) (h3 : StrsIn w S va (vocL 5)) => mod_at (n := 5) (by omega) GG.out vc h1 h3)
  have HMn := hidIt (fun (w : World) (va : Option Addr) (S : Nat → Prop) (vf : Value) (h1 : FormAt w none vf (.node 4 ⟨#[]⟩ [f])) (h3 : StrsIn w S va (vocL 5)) => mod_at (n := 5) (by omega) GN.out vc h1 h3)
  have HMa := hidIt (fun (w : World) (va : Option Addr) (S : Nat → Prop) (vf : Value) (h1 : FormAt w none vf (.node 5 ⟨#[]⟩ [f, g])) (h3 : StrsIn w S va (vocL 5)) => mod_at (n := 5) (by omega) GA.out vc h1 h3)
  have HMo := hidIt (fun (w : World) (va : Option Addr) (S : Nat → Prop) (vf : Value) (h1 : FormAt w none vf (.node 6 ⟨#[]⟩ [f, g])) (h3 : StrsIn w S va (vocL 5)) => mod_at (n := 5) (by omega) GO.out vc h1 h3)
  have HMi := hidIt (fun (w : World) (va : Option Addr) (S : Nat → Prop) (vf : Value) (h1 : FormAt w none vf (.node 7 ⟨#[]⟩ [f, g])) (h3 : StrsIn w S va (vocL 5)) => mod_at (n := 5) (by omega) GI.out vc h1 h3)
  have HMe := hidIt (fun (w : World) (va : Option Addr) (S : Nat → Prop) (vf : Value) (h1 : FormAt w none vf (.node 8 ⟨#[]⟩ [f, g])) (h3 : StrsIn w S va (vocL 5)) => mod_at (n := 5) (by omega) GE.out vc h1 h3)
  rw [HMN.out] at HMn
  rw [HMA.out] at HMa
  rw [HMO.out] at HMo
  rw [HMI.out] at HMi
  rw [HME.out] at HMe
  clear HMN HMA HMO HMI HME GF GG GN GA GO GI GE
  generalize modM 5 f = A at *
  generalize modM 5 g = B at *
  generalize allS 5 = L at *
  generalize L &&& ~~~(A ^^^ B) = E at *
  generalize A ^^^ B = X at *
  generalize hNN : L &&& ~~~A = N at *
  generalize N ||| B = I at *
  generalize A &&& ~~~B = D at *
  generalize A &&& B = C at *
  generalize A ||| B = O at *
  clear hNN
  obtain ⟨y, hy⟩ : ∃ y, decide (D = 0#64) = y := ⟨_, rfl⟩
  have hey := HEY.out
  rw [hy] at HEN hey
  clear hy HEY
  have hsz := HSZ.out
  have HSA := hidIt (fun w => wsize_any A w)
  have HSN := hidIt (fun w => wsize_any N w)
  clear HSZ
  generalize onesI (A.toNat : Int) = sA at *
  generalize onesI (N.toNat : Int) = sN at *
  obtain ⟨hs1, hs2, hs3⟩ := hsz
  refine (HMF.out _ _ _ _ HF.out HV.out).mono ?_
  rintro e x1 ⟨rfl, hb⟩
  have HB1 := hidIt (HB.out.trans (Below.mono hb HB.out.size))
  have HF1 := hidIt (HF.out.go hb)
  have HKF1 := hidIt (blk_kept HKF.out hb)
  have HG1 := hidIt (HG.out.go hb)
  have HKG1 := hidIt (blk_kept HKG.out hb)
  have HR1 := hidIt (HR.out.go hb)
  have HV1 := hidIt (HV.out.go hb)
  clear hb HB HF HG HKF HKG HR HV
  obtain ⟨f0, f1, f2⟩ := cell_of3 HKF1.out
  obtain ⟨g0, g1, g2⟩ := cell_of3 HKG1.out
  have fl := lt_of_block HKF1.out
  have gl := lt_of_block HKG1.out
  go_wp2_with fail
  clear f0 f1 f2 g0 g1 g2 fl gl
  refine (HMG.out _ _ _ _ HG1.out HV1.out).mono ?_
  rintro e x2 ⟨rfl, hb⟩
  have HB2 := hidIt (HB1.out.trans (Below.mono hb HB1.out.size))
  have HF2 := hidIt (HF1.out.go hb)
  have HKF2 := hidIt (blk_kept HKF1.out hb)
  have HG2 := hidIt (HG1.out.go hb)
  have HKG2 := hidIt (blk_kept HKG1.out hb)
  have HR2 := hidIt (HR1.out.go hb)
  have HV2 := hidIt (HV1.out.go hb)
  clear hb HB1 HF1 HG1 HKF1 HKG1 HR1 HV1
  obtain ⟨f0, f1, f2⟩ := cell_of3 HKF2.out
  obtain ⟨g0, g1, g2⟩ := cell_of3 HKG2.out
  have fl := lt_of_block HKF2.out
  have gl := lt_of_block HKG2.out
  go_wp2_with fail
  clear f0 f1 f2 g0 g1 g2 fl gl
  refine (HALL.out _ _ _ _ HV2.out).mono ?_
  rintro e w' ⟨rfl, rfl⟩
  go_wp2_with fail
  refine (HMn.out _ _ _ _ (FormIn.free (FormIn.mk (FormsIn.first HR2.out) rfl (i64_small (by omega) (by omega)) nil_le (by simp) (by unfold maxLen; omega))) HV2.out).mono ?_
  rintro e x3 ⟨rfl, hb⟩
  have HB3 := hidIt (HB2.out.trans (Below.mono hb HB2.out.size))
  have HF3 := hidIt (HF2.out.go hb)
  have HKF3 := hidIt (blk_kept HKF2.out hb)
  have HG3 := hidIt (HG2.out.go hb)
  have HKG3 := hidIt (blk_kept HKG2.out hb)
  have HR3 := hidIt (HR2.out.go hb)
  have HV3 := hidIt (HV2.out.go hb)
  clear hb HB2 HF2 HG2 HKF2 HKG2 HR2 HV2
  obtain ⟨f0, f1, f2⟩ := cell_of3 HKF3.out
  obtain ⟨g0, g1, g2⟩ := cell_of3 HKG3.out
  have fl := lt_of_block HKF3.out
  have gl := lt_of_block HKG3.out
  go_wp2_with fail
  clear f0 f1 f2 g0 g1 g2 fl gl
  refine (HMa.out _ _ _ _ (FormIn.free (FormIn.mk HR3.out rfl (i64_small (by omega) (by omega)) nil_le (by simp) (by unfold maxLen; omega))) HV3.out).mono ?_
  rintro e x4 ⟨rfl, hb⟩
  have HB4 := hidIt (HB3.out.trans (Below.mono hb HB3.out.size))
  have HF4 := hidIt (HF3.out.go hb)
  have HKF4 := hidIt (blk_kept HKF3.out hb)
  have HG4 := hidIt (HG3.out.go hb)
  have HKG4 := hidIt (blk_kept HKG3.out hb)
  have HR4 := hidIt (HR3.out.go hb)
  have HV4 := hidIt (HV3.out.go hb)
  clear hb HB3 HF3 HG3 HKF3 HKG3 HR3 HV3
  obtain ⟨f0, f1, f2⟩ := cell_of3 HKF4.out
  obtain ⟨g0, g1, g2⟩ := cell_of3 HKG4.out
  have fl := lt_of_block HKF4.out
  have gl := lt_of_block HKG4.out
  go_wp2_with fail
  clear f0 f1 f2 g0 g1 g2 fl gl
  refine (HMo.out _ _ _ _ (FormIn.free (FormIn.mk HR4.out rfl (i64_small (by omega) (by omega)) nil_le (by simp) (by unfold maxLen; omega))) HV4.out).mono ?_
  rintro e x5 ⟨rfl, hb⟩
  have HB5 := hidIt (HB4.out.trans (Below.mono hb HB4.out.size))
  have HF5 := hidIt (HF4.out.go hb)
  have HKF5 := hidIt (blk_kept HKF4.out hb)
  have HG5 := hidIt (HG4.out.go hb)
  have HKG5 := hidIt (blk_kept HKG4.out hb)
  have HR5 := hidIt (HR4.out.go hb)
  have HV5 := hidIt (HV4.out.go hb)
  clear hb HB4 HF4 HG4 HKF4 HKG4 HR4 HV4
  obtain ⟨f0, f1, f2⟩ := cell_of3 HKF5.out
  obtain ⟨g0, g1, g2⟩ := cell_of3 HKG5.out
  have fl := lt_of_block HKF5.out
  have gl := lt_of_block HKG5.out
  go_wp2_with fail
  clear f0 f1 f2 g0 g1 g2 fl gl
  refine (HMi.out _ _ _ _ (FormIn.free (FormIn.mk HR5.out rfl (i64_small (by omega) (by omega)) nil_le (by simp) (by unfold maxLen; omega))) HV5.out).mono ?_
  rintro e x6 ⟨rfl, hb⟩
  have HB6 := hidIt (HB5.out.trans (Below.mono hb HB5.out.size))
  have HF6 := hidIt (HF5.out.go hb)
  have HKF6 := hidIt (blk_kept HKF5.out hb)
  have HG6 := hidIt (HG5.out.go hb)
  have HKG6 := hidIt (blk_kept HKG5.out hb)
  have HR6 := hidIt (HR5.out.go hb)
  have HV6 := hidIt (HV5.out.go hb)
  clear hb HB5 HF5 HG5 HKF5 HKG5 HR5 HV5
  obtain ⟨f0, f1, f2⟩ := cell_of3 HKF6.out
  obtain ⟨g0, g1, g2⟩ := cell_of3 HKG6.out
  have fl := lt_of_block HKF6.out
  have gl := lt_of_block HKG6.out
  go_wp2_with fail
  clear f0 f1 f2 g0 g1 g2 fl gl
  refine (HMe.out _ _ _ _ (FormIn.free (FormIn.mk HR6.out rfl (i64_small (by omega) (by omega)) nil_le (by simp) (by unfold maxLen; omega))) HV6.out).mono ?_
  rintro e x7 ⟨rfl, hb⟩
  have HB7 := hidIt (HB6.out.trans (Below.mono hb HB6.out.size))
  have HF7 := hidIt (HF6.out.go hb)
  have HKF7 := hidIt (blk_kept HKF6.out hb)
  have HG7 := hidIt (HG6.out.go hb)
  have HKG7 := hidIt (blk_kept HKG6.out hb)
  have HR7 := hidIt (HR6.out.go hb)
  have HV7 := hidIt (HV6.out.go hb)
  clear hb HB6 HF6 HG6 HKF6 HKG6 HR6 HV6
  obtain ⟨f0, f1, f2⟩ := cell_of3 HKF7.out
  obtain ⟨g0, g1, g2⟩ := cell_of3 HKG7.out
  have fl := lt_of_block HKF7.out
  have gl := lt_of_block HKG7.out
  go_wp2_with fail
  clear f0 f1 f2 g0 g1 g2 fl gl
  refine (HEN.out _ _ _ _ _ HF7.out HG7.out HV7.out).mono ?_
  rintro e x8 ⟨rfl, hb⟩
  have HB8 := hidIt (HB7.out.trans (Below.mono hb HB7.out.size))
  have HSG8 := hidIt (HSG.out.go HB8.out)
  clear hb HF7 HG7 HKF7 HKG7 HR7 HV7 HB7 HSG
  go_wp2_with fail
  refine (HSA.out _).mono ?_
  rintro e w' ⟨rfl, rfl⟩
  go_wp2_with fail
  refine (HSN.out _).mono ?_
  rintro e w' ⟨rfl, rfl⟩
  go_wp2_with fail
  refine (awake3_any _ HSG8.out).mono ?_
  rintro e x9 ⟨rfl, hb⟩
  have HB9 := hidIt (HB8.out.trans (Below.mono hb HB8.out.size))
  clear hb
  go_wp2_with fail
  go_ret
  exact ⟨rfl, HB9.out⟩
end Go.Proofs.YtmkcohcpdfabbaaDoor
