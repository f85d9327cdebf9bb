/- The law WorldEntails: the call answers true for every list of numbers. -/
import Derived.Test.YtmkcohcpdfabbaaDoorWorld
namespace Go.Proofs.YtmkcohcpdfabbaaDoor
set_option linter.unusedVariables false
set_option linter.unusedSimpArgs false
open Go Go.RowKit

/-- Entails at valid formulas. -/
theorem ent_at {n : Nat} (hn : n ≤ 6) {f g : Tree} (hf : GoodF n f) (hg : GoodF n g) {va : Option Addr} (vc : Nat) {vf vg : Value} {w : World} {S : Nat → Prop} (hvf : FormAt w none vf f) (hvg : FormAt w none vg g) (hs : StrsIn w S va (vocL n)) :
    Calls Tryd.prog 38 #[.slice va n vc, vf, vg] w fun e w' => e = .returned (.tuple #[.bool (decide (modM n f &&& ~~~(modM n g) = 0#64)), .int .i64 0]) ∧ Below w.heap.size w w' := by
  have h1 := entails_any (vocL n) va vc (by rw [vocL_len]; omega) f g vf vg w hvf hvg (hs.mono fun _ _ _ => trivial)
  have hE : entE (vocL n) f g = 0 := by unfold entE; rw [if_pos (hf.modE hn), hg.modE hn]
  have hB : entB (vocL n) f g = decide (modM n f &&& ~~~(modM n g) = 0#64) := by unfold entB; rw [if_pos hE, hf.modS hn, hg.modS hn]; rfl
  rw [vocL_len, hE, hB] at h1
  exact h1

/-- The conjunction of a formula and of the negation of another. -/
abbrev butT (f g : Tree) : Tree := .node 5 ⟨#[]⟩ [f, .node 4 ⟨#[]⟩ [g]]
theorem but_good {n d : Nat} {f g : Tree} (hf : f.all (nodeG n) = true ∧ f.depth ≤ d) (hg : g.all (nodeG n) = true ∧ g.depth ≤ d) (hd : d ≤ 3) : GoodF n (butT f g) := by
  have h1 := Parts.node (n := n) (d := d) (ts := [g]) (fun t ht => by rw [List.mem_singleton.1 ht]; exact hg) (op := 4) (node_good (.inl ⟨rfl, rfl⟩))
  have h2 := Parts.node (n := n) (d := d + 1) (ts := [f, .node 4 ⟨#[]⟩ [g]]) (fun t ht => by
    rcases List.mem_cons.1 ht with rfl | ht
    · exact ⟨hf.1, by omega⟩
    · rw [List.mem_singleton.1 ht]; exact h1) (op := 5) (node_good (.inr (.inl ⟨.inl rfl, by simp⟩)))
  exact goodF_gen h2.1 h2.2 (by omega)
theorem but_mod (n : Nat) (f g : Tree) : modM n (butT f g) = modM n f &&& ~~~(modM n g) := set_ext fun j hj => by
  unfold modM
  simp only [BitVec.getLsbD_and, BitVec.getLsbD_not, modelsV_bit _ _ j hj, hj, decide_true, Bool.true_and]
  simp only [butT, valueB, valuesB]
  cases valueB (atomAt (vocL n) j) f <;> cases valueB (atomAt (vocL n) j) g <;> cases (allS n).getLsbD j <;> simp

theorem ent_trans {A B C : BitVec 64} (h1 : A &&& ~~~B = 0#64) (h2 : B &&& ~~~C = 0#64) : A &&& ~~~C = 0#64 := set_ext fun j hj => by
  have e1 := congrArg (·.getLsbD j) h1
  have e2 := congrArg (·.getLsbD j) h2
  simp only [BitVec.getLsbD_and, BitVec.getLsbD_not, BitVec.getLsbD_zero, hj, decide_true, Bool.true_and] at e1 e2 ⊢
  revert e1 e2
  generalize A.getLsbD j = a
  generalize B.getLsbD j = b
  generalize C.getLsbD j = c
  cases a <;> cases b <;> cases c <;> simp
theorem ent_refl (A : BitVec 64) : A &&& ~~~A = 0#64 := set_ext fun j hj => by
  simp only [BitVec.getLsbD_and, BitVec.getLsbD_not, BitVec.getLsbD_zero]
  cases A.getLsbD j <;> simp

set_option maxRecDepth 100000 in
set_option maxHeartbeats 4000000 in
theorem ent_walk (v : Value) (zs : List Int) (w : World) (hz : IntsAt w w.heap.size v zs) (hsg : SignsAt w) : Calls Tryd.prog 10 #[v] w fun e w' => e = .returned (.bool true) ∧ Below w.heap.size w w' := by
  have HSG := hidIt hsg
  have HZ := hidIt hz
  clear hsg hz
  go_enter Tryd.func10, Tryd.ntmps10
  go_wp2_with fail
  refine (new_any v zs w.heap.size w HZ.out (Nat.le_refl _)).mono ?_
  rintro e w1 ⟨zs1, rfl, hs1, o1, hw1⟩
  have HS1 := hidIt hs1
  have HB1 : Hid (Below w.heap.size w w1) := by rw [hw1]; exact (Below.refl _ _).alloc (Nat.le_refl _) _
  have hsz1 : w.heap.size < w1.heap.size := hs1.lt
  clear hs1 hw1 HZ
  go_wp2_with fail
  refine (voc_any 4 (by omega) w1).mono ?_
  rintro e w2 ⟨va, vc, rfl, -, hvcm, hvs, hb2⟩
  have HS2 := hidIt (HS1.out.grow (only_of_below hb2 none))
  have HB2 := hidIt (HB1.out.trans (Below.mono hb2 HB1.out.size))
  have HV2 : Hid (StrsIn w2 (fun k => w.heap.size ≠ k) va (vocL 4)) := hvs.mono fun k _ hk => by omega
  have hsz2 : w1.heap.size ≤ w2.heap.size := hb2.size
  clear hvs hb2 HS1 HB1
  go_wp2_with fail
  refine (sform_any 4 (by omega) (by omega) 3 (by omega) _ _ zs1 0 w2 HS2.out).mono ?_
  rintro e w3 ⟨f, fo, fs, fa, fm, fc, q3, rfl, hf1, hf2, hf3, hs3, hg3⟩
  have HGF : Hid (f.all (nodeG 4) = true ∧ f.depth ≤ 3) := ⟨hf1, hf2⟩
  have HS3 := hidIt hs3
  have HB3 := hidIt (only_trans (only_of_below HB2.out (some w.heap.size)) hg3)
  have HV3 : Hid (StrsIn w3 (fun k => w.heap.size ≠ k) va (vocL 4)) := HV2.out.kept fun i hi hl => hg3.block i hl (fun e => by injection e with e; omega)
  have HF3 : Hid (FormAt w3 (some w.heap.size) (.agg #[.int .i64 fo, .string fs, .slice fa fm fc]) f) := hf3.mono (fun i _ hi e => by injection e with e; omega)
  have hsz3 : w2.heap.size ≤ w3.heap.size := hg3.size
  clear hf1 hf2 hf3 hs3 hg3 HS2 HB2 HV2
  go_wp2_with fail
  refine (sform_any 4 (by omega) (by omega) 3 (by omega) _ _ zs1 q3 w3 HS3.out).mono ?_
  rintro e w4 ⟨g, go, gs, ga, gm, gc, q4, rfl, hf1, hf2, hf4, hs4, hg4⟩
  have HGG : Hid (g.all (nodeG 4) = true ∧ g.depth ≤ 3) := ⟨hf1, hf2⟩
  have HS4 := hidIt hs4
  have HB4 := hidIt (only_trans HB3.out hg4)
  have HV4 : Hid (StrsIn w4 (fun k => w.heap.size ≠ k) va (vocL 4)) := HV3.out.kept fun i hi hl => hg4.block i hl (fun e => by injection e with e; omega)
  have HF4 := hidIt (FormAt.kept HF3.out hg4)
  have HG4 : Hid (FormAt w4 (some w.heap.size) (.agg #[.int .i64 go, .string gs, .slice ga gm gc]) g) := hf4.mono (fun i _ hi e => by injection e with e; omega)
  have hsz4 : w3.heap.size ≤ w4.heap.size := hg4.size
  clear hf1 hf2 hf4 hs4 hg4 HS3 HB3 HV3 HF3
  go_wp2_with fail
  refine (sform_any 4 (by omega) (by omega) 2 (by omega) _ _ zs1 q4 w4 HS4.out).mono ?_
  rintro e w5 ⟨h, ho, hs, ha, hm, hc, q5, rfl, hf1, hf2, hf5, hs5, hg5⟩
  have HGH : Hid (h.all (nodeG 4) = true ∧ h.depth ≤ 3) := ⟨hf1, by omega⟩
  have HB5 := hidIt (below_of_only (only_trans HB4.out hg5) (Nat.le_refl _))
  have HV5 : Hid (StrsIn w5 (fun k => w.heap.size ≠ k) va (vocL 4)) := HV4.out.kept fun i hi hl => hg5.block i hl (fun e => by injection e with e; omega)
  have HF5 := hidIt (FormAt.kept HF4.out hg5)
  have HG5 := hidIt (FormAt.kept HG4.out hg5)
  have HH5 : Hid (FormAt w5 (some w.heap.size) (.agg #[.int .i64 ho, .string hs, .slice ha hm hc]) h) := hf5.mono (fun i _ hi e => by injection e with e; omega)
  clear hf1 hf2 hf5 hs5 hg5 HS4 HB4 HV4 HF4 HG4 hsz1 hsz2 hsz3 hsz4
  obtain ⟨W, hW⟩ : ∃ W : World, W = (((w5.alloc (.cells #[.int .i64 fo, .string fs, .slice fa fm fc] 24)).alloc (.cells #[.int .i64 go, .string gs, .slice ga gm gc] 24)).alloc (.cells #[.int .i64 ho, .string hs, .slice ha hm hc] 24)) := ⟨_, rfl⟩
  have hbw : Below w5.heap.size w5 W := by rw [hW]; exact (((Below.refl _ _).alloc (Nat.le_refl _) _).alloc (by simp) _).alloc (by simp; omega) _
  have HKF : Hid (W.heap[w5.heap.size]? = some (.cells #[.int .i64 fo, .string fs, .slice fa fm fc] 24 (0, 0))) := by show _ = _; rw [hW]; exact blk_kept (blk_kept (heap_alloc_new w5 _) (Grows.alloc _ _)) (Grows.alloc _ _)
  have HKG : Hid (W.heap[w5.heap.size + 1]? = some (.cells #[.int .i64 go, .string gs, .slice ga gm gc] 24 (0, 0))) := by show _ = _; rw [hW]; exact blk_kept (heap_alloc_at (by simp)) (Grows.alloc _ _)
  have HKH : Hid (W.heap[w5.heap.size + 1 + 1]? = some (.cells #[.int .i64 ho, .string hs, .slice ha hm hc] 24 (0, 0))) := by show _ = _; rw [hW]; exact heap_alloc_at (by simp)
  have HF := hidIt (HF5.out.free.go hbw)
  have HG := hidIt (HG5.out.free.go hbw)
  have HH := hidIt (HH5.out.free.go hbw)
  have HV := hidIt (HV5.out.go hbw)
  have HB := hidIt (HB5.out.trans (Below.mono hbw HB5.out.size))
  have HW := hidIt hW
  have GF := hidIt (goodF_gen HGF.out.1 HGF.out.2 (by omega))
  have GG := hidIt (goodF_gen HGG.out.1 HGG.out.2 (by omega))
  have GH := hidIt (goodF_gen HGH.out.1 HGH.out.2 (by omega))
  have GM := hidIt (but_good HGF.out HGG.out (by omega))
  clear hbw hW HF5 HG5 HH5 HV5 HB5 HGF HGG HGH
  unfold maxLen at hvcm
  go_wp2_with fail
  rw [← HW.out]
  clear HW
  obtain ⟨a, hda⟩ : ∃ a, decide (modM 4 f &&& ~~~(modM 4 g) = 0#64) = a := ⟨_, rfl⟩
  obtain ⟨b, hdb⟩ : ∃ b, decide (modM 4 g &&& ~~~(modM 4 h) = 0#64) = b := ⟨_, rfl⟩
  obtain ⟨c, hdc⟩ : ∃ c, decide (modM 4 f &&& ~~~(modM 4 h) = 0#64) = c := ⟨_, rfl⟩
  have hdd : decide (modM 4 f &&& ~~~(modM 4 f) = 0#64) = true := decide_eq_true (ent_refl _)
  have HDM : Hid ((((modM 4 (butT f g)).toNat : Int) == 0) = a) := by
    show _ = _
    have := eq_bv (modM 4 (butT f g)) 0#64
    rw [but_mod, hda] at this
    rw [but_mod]
    exact this
  have HTR : Hid (a = true → b = true → c = true) := fun h1 h2 => by
    rw [← hdc, decide_eq_true_eq]
    exact ent_trans (by rw [h1] at hda; simpa using hda) (by rw [h2] at hdb; simpa using hdb)
  have HDA := hidIt hda
  have HDB := hidIt hdb
  have HDC := hidIt hdc
  have HDD := hidIt hdd
  clear hda hdb hdc hdd
  refine (ent_at (by omega) GF.out GG.out _ HF.out HG.out HV.out).mono ?_
  rintro e x1 ⟨rfl, hb⟩
  rw [HDA.out]
  have HB1 := hidIt (HB.out.trans (Below.mono hb HB.out.size))
  have HF1 := hidIt (HF.out.go hb)
  have HKF1 := hidIt (blk_kept HKF.out hb)
  have HG1 := hidIt (HG.out.go hb)
  have HKG1 := hidIt (blk_kept HKG.out hb)
  have HH1 := hidIt (HH.out.go hb)
  have HKH1 := hidIt (blk_kept HKH.out hb)
  have HV1 := hidIt (HV.out.go hb)
  clear hb HB HF HG HH HKF HKG HKH HV
  obtain ⟨f0, f1, f2⟩ := cell_of3 HKF1.out
  obtain ⟨g0, g1, g2⟩ := cell_of3 HKG1.out
  obtain ⟨h0, h1, h2⟩ := cell_of3 HKH1.out
  have fl := lt_of_block HKF1.out
  have gl := lt_of_block HKG1.out
  have hl := lt_of_block HKH1.out
  go_wp2_with fail
  refine (ent_at (by omega) GG.out GH.out _ HG1.out HH1.out HV1.out).mono ?_
  rintro e x2 ⟨rfl, hb⟩
  rw [HDB.out]
  have HB2 := hidIt (HB1.out.trans (Below.mono hb HB1.out.size))
  have HF2 := hidIt (HF1.out.go hb)
  have HKF2 := hidIt (blk_kept HKF1.out hb)
  have HG2 := hidIt (HG1.out.go hb)
  have HKG2 := hidIt (blk_kept HKG1.out hb)
  have HH2 := hidIt (HH1.out.go hb)
  have HKH2 := hidIt (blk_kept HKH1.out hb)
  have HV2 := hidIt (HV1.out.go hb)
  clear hb HB1 HF1 HG1 HH1 HKF1 HKG1 HKH1 HV1
  clear f0 f1 f2 g0 g1 g2 h0 h1 h2 fl gl hl
  obtain ⟨f0, f1, f2⟩ := cell_of3 HKF2.out
  obtain ⟨g0, g1, g2⟩ := cell_of3 HKG2.out
  obtain ⟨h0, h1, h2⟩ := cell_of3 HKH2.out
  have fl := lt_of_block HKF2.out
  have gl := lt_of_block HKG2.out
  have hl := lt_of_block HKH2.out
  go_wp2_with fail
  refine (ent_at (by omega) GF.out GH.out _ HF2.out HH2.out HV2.out).mono ?_
  rintro e x3 ⟨rfl, hb⟩
  rw [HDC.out]
  have HB3 := hidIt (HB2.out.trans (Below.mono hb HB2.out.size))
  have HF3 := hidIt (HF2.out.go hb)
  have HKF3 := hidIt (blk_kept HKF2.out hb)
  have HG3 := hidIt (HG2.out.go hb)
  have HKG3 := hidIt (blk_kept HKG2.out hb)
  have HH3 := hidIt (HH2.out.go hb)
  have HKH3 := hidIt (blk_kept HKH2.out hb)
  have HV3 := hidIt (HV2.out.go hb)
  clear hb HB2 HF2 HG2 HH2 HKF2 HKG2 HKH2 HV2
  clear f0 f1 f2 g0 g1 g2 h0 h1 h2 fl gl hl
  obtain ⟨f0, f1, f2⟩ := cell_of3 HKF3.out
  obtain ⟨g0, g1, g2⟩ := cell_of3 HKG3.out
  obtain ⟨h0, h1, h2⟩ := cell_of3 HKH3.out
  have fl := lt_of_block HKF3.out
  have gl := lt_of_block HKG3.out
  have hl := lt_of_block HKH3.out
  go_wp2_with fail
  refine (ent_at (by omega) GF.out GF.out _ HF3.out HF3.out HV3.out).mono ?_
  rintro e x4 ⟨rfl, hb⟩
  rw [HDD.out]
  have HB4 := hidIt (HB3.out.trans (Below.mono hb HB3.out.size))
  have HF4 := hidIt (HF3.out.go hb)
  have HKF4 := hidIt (blk_kept HKF3.out hb)
  have HG4 := hidIt (HG3.out.go hb)
  have HKG4 := hidIt (blk_kept HKG3.out hb)
  have HH4 := hidIt (HH3.out.go hb)
  have HKH4 := hidIt (blk_kept HKH3.out hb)
  have HV4 := hidIt (HV3.out.go hb)
  clear hb HB3 HF3 HG3 HH3 HKF3 HKG3 HKH3 HV3
  clear f0 f1 f2 g0 g1 g2 h0 h1 h2 fl gl hl
  obtain ⟨f0, f1, f2⟩ := cell_of3 HKF4.out
  obtain ⟨g0, g1, g2⟩ := cell_of3 HKG4.out
  obtain ⟨h0, h1, h2⟩ := cell_of3 HKH4.out
  have fl := lt_of_block HKF4.out
  have gl := lt_of_block HKG4.out
  have hl := lt_of_block HKH4.out
  go_wp2_with fail
  clear f0 f1 f2 g0 g1 g2 h0 h1 h2 fl gl hl HKF4 HKG4 HKH4
  have hr1 := isForms_one (S := anyS) (anyS_all _) HG4.out
  have hn1 : FormIn (x4.alloc (.cells #[.int .i64 go, .string gs, .slice ga gm gc] 24)) anyS (.agg #[.int .i64 4, .string ⟨#[]⟩, .slice (some ⟨x4.heap.size, 0, none⟩) 1 1]) (.node 4 ⟨#[]⟩ [g]) := by
    obtain ⟨a', c', e, h1, h2, h3⟩ := hr1
    injection e with e1 e2 e3
    subst e1 e3
    exact FormIn.mk h3 rfl (i64_small (by omega) (by omega)) nil_le h1 h2
  have hr2 := isForms_two (S := anyS) (anyS_all _) (HF4.out.go (Grows.alloc x4 (.cells #[.int .i64 go, .string gs, .slice ga gm gc] 24))) hn1
  rw [World.size_alloc] at hr2
  have hbx : Below x4.heap.size x4 ((x4.alloc (.cells #[.int .i64 go, .string gs, .slice ga gm gc] 24)).alloc (.cells #[.int .i64 fo, .string fs, .slice fa fm fc, .int .i64 4, .string ⟨#[]⟩, .slice (some ⟨x4.heap.size, 0, none⟩) 1 1] 24)) := ((Below.refl _ _).alloc (Nat.le_refl _) _).alloc (by simp) _
  have HMT : Hid (FormAt ((x4.alloc (.cells #[.int .i64 go, .string gs, .slice ga gm gc] 24)).alloc (.cells #[.int .i64 fo, .string fs, .slice fa fm fc, .int .i64 4, .string ⟨#[]⟩, .slice (some ⟨x4.heap.size, 0, none⟩) 1 1] 24)) none (.agg #[.int .i64 5, .string ⟨#[]⟩, .slice (some ⟨x4.heap.size + 1, 0, none⟩) 2 2]) (butT f g)) := by
    obtain ⟨a', c', e, h1, h2, h3⟩ := hr2
    injection e with e1 e2 e3
    subst e1 e3
    exact FormIn.mk h3 rfl (i64_small (by omega) (by omega)) nil_le h1 h2
  have HV5 := hidIt (HV4.out.go hbx)
  have HB5 := hidIt (HB4.out.trans (Below.mono hbx HB4.out.size))
  clear hr1 hn1 hr2 hbx HF4 HG4 HH4 HV4 HB4
  refine (mod_at (by omega) GM.out _ HMT.out HV5.out).mono ?_
  rintro e x6 ⟨rfl, hb⟩
  have HB6 := hidIt (HB5.out.trans (Below.mono hb HB5.out.size))
  have HSG6 := hidIt (HSG.out.go HB6.out)
  clear hb HB5 HV5 HMT HSG
  have hdm := HDM.out
  generalize (modM 4 (butT f g)) = M at *
  cases a <;> cases b <;> cases c
  case true.true.false => exact absurd (HTR.out rfl rfl) (by decide)
  all_goals
    go_wp2_with fail
    refine (awake3_any _ HSG6.out).mono ?_
    rintro e x7 ⟨rfl, hb⟩
    have HB7 := hidIt (HB6.out.trans (Below.mono hb HB6.out.size))
    clear hb
    go_wp2_with fail
    go_ret
    exact ⟨rfl, HB7.out⟩
end Go.Proofs.YtmkcohcpdfabbaaDoor
