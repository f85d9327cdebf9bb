/- The law WorldForgets: the call answers true for every list of numbers. -/
import Derived.Test.YtmkcohcpdfabbaaDoorForgM
namespace Go.Proofs.YtmkcohcpdfabbaaDoor
set_option linter.unusedVariables false
set_option linter.unusedSimpArgs false
open Go Go.RowKit

/-- A pointer to an empty formula in a block that is new. -/
def isBox (L : Nat) : Value → World → Prop := fun v w => ∃ nb : Nat, v = .pointer (some ⟨nb, 0, none⟩) ∧ L ≤ nb ∧ w.heap[nb]? = some (.cells #[.int .i64 0, .string ⟨#[]⟩, .slice none 0 0] 24 (0, 0))
theorem isBox_up (L : Nat) : GoesUp (isBox L) := fun _ _ _ hg ⟨nb, h1, h2, h3⟩ => ⟨nb, h1, h2, blk_kept h3 hg⟩
/-- Substitute in the walk. -/
theorem rel_sub {W w : World} (hC : Ext W w) {p : ByteArray} {f g : Tree} (hf : f.nodes ≤ 1000000) (hg : g.nodes ≤ 1000000) {v vg : Value} (h : FormAt w none v f) (h' : FormAt w none vg g) :
    Calls Tryd.prog 40 #[v, .string p, vg] w fun e w'' => ∃ u, e = .returned u ∧ Ext W w'' ∧ Grows w w'' ∧ isForm anyS (substT p g f) u w'' :=
  rel_call hC ((subst_any p g hg f hf v vg w h h').mono fun _ _ ⟨_, _, _, _, _, he, hfm, hb⟩ => ⟨_, he, FormIn.mono hfm (fun _ _ _ => anyS_all _), hb⟩)

theorem set_blk3 {w : World} {nb : Nat} {x y z x' y' z' : Value} {t : TypeId} (h : w.heap[nb]? = some (.cells #[x, y, z] t (0, 0))) : (((w.setCell ⟨nb, 0, none⟩ x').setCell ⟨nb, 1, none⟩ y').setCell ⟨nb, 2, none⟩ z').heap[nb]? = some (.cells #[x', y', z'] t (0, 0)) := by
  rw [setCell_heap_self (setCell_heap_self (setCell_heap_self h _) _) _]
  rfl

set_option maxRecDepth 100000 in
set_option maxHeartbeats 4000000 in
theorem forg_walk (v : Value) (zs : List Int) (w : World) (hz : IntsAt w w.heap.size v zs) (hsg : SignsAt w) : Calls Tryd.prog 9 #[v] w fun e w' => e = .returned (.bool true) ∧ Below w.heap.size w w' := by
  have HSG := hidIt hsg
  have HZ := hidIt hz
  clear hsg hz
  go_enter Tryd.func9, Tryd.ntmps9
  go_wp2_with fail
  refine (new_any v zs w.heap.size w HZ.out (Nat.le_refl _)).mono ?_
  rintro e w1 ⟨zs1, rfl, hs1, o1, hw1⟩
  have HS1 := hidIt hs1
  have HB1 : Hid (Below w.heap.size w w1) := by rw [hw1]; exact (Below.refl _ _).alloc (Nat.le_refl _) _
  have hsz1 : w.heap.size < w1.heap.size := hs1.lt
  clear hs1 hw1 HZ
  go_wp2_with fail
  refine (voc_any 4 (by omega) w1).mono ?_
  rintro e w2 ⟨va, vc, rfl, hvlc, hvcm, hvs, hb2⟩
  have HS2 := hidIt (HS1.out.grow (only_of_below hb2 none))
  have HB2 := hidIt (HB1.out.trans (Below.mono hb2 HB1.out.size))
  have HV2 : Hid (StrsIn w2 (fun k => w.heap.size ≠ k) va (vocL 4)) := hvs.mono fun k _ hk => by omega
  have hsz2 : w1.heap.size ≤ w2.heap.size := hb2.size
  clear hvs hb2 HS1 HB1
  go_wp2_with fail
  refine (sform_any 4 (by omega) (by omega) 3 (by omega) _ _ zs1 0 w2 HS2.out).mono ?_
  rintro e w3 ⟨f, fo, fs, fa, fm, fc, q3, rfl, hf1, hf2, hf3, hs3, hg3⟩
  have HGF : Hid (f.all (nodeG 4) = true ∧ f.depth ≤ 3) := ⟨hf1, hf2⟩
  have HB3 := hidIt (only_trans (only_of_below HB2.out (some w.heap.size)) hg3)
  have HV3 : Hid (StrsIn w3 (fun k => w.heap.size ≠ k) va (vocL 4)) := HV2.out.kept fun i hi hl => hg3.block i hl (fun e => by injection e with e; omega)
  have HF3 : Hid (FormAt w3 (some w.heap.size) (.agg #[.int .i64 fo, .string fs, .slice fa fm fc]) f) := hf3.mono (fun i _ hi e => by injection e with e; omega)
  have hsz3 : w2.heap.size ≤ w3.heap.size := hg3.size
  have HGR : Hid (Below w3.heap.size w3 (w3.alloc (.cells #[.int .i64 fo, .string fs, .slice fa fm fc] 24))) := Grows.alloc _ _
  have HS4 := hidIt (hs3.grow (only_of_below HGR.out none))
  have HV4 := hidIt (HV3.out.go HGR.out)
  have HF4 := hidIt (FormIn.go HF3.out HGR.out)
  have HB4 := hidIt (only_trans HB3.out (only_of_below HGR.out _))
  have HK4 : Hid ((w3.alloc (.cells #[.int .i64 fo, .string fs, .slice fa fm fc] 24)).heap[w3.heap.size]? = some (.cells #[.int .i64 fo, .string fs, .slice fa fm fc] 24 (0, 0))) := heap_alloc_new _ _
  clear hf1 hf2 hf3 hs3 hg3 HS2 HB2 HV2 HB3 HV3 HF3 HGR
  go_wp2_with fail
  refine (sn_nat 4 (by omega) (by omega) _ _ zs1 q3 _ HS4.out).mono ?_
  rintro e w5 ⟨m, q5, rfl, hm, hs5, hg5⟩
  have hne : w3.heap.size ≠ w.heap.size := by omega
  generalize w3.heap.size = pf at *
  generalize (w3.alloc (.cells #[.int .i64 fo, .string fs, .slice fa fm fc] 24)) = w4 at *
  have hm4 : m < 4 := by omega
  have HB5 := hidIt (below_of_only (only_trans HB4.out hg5) (Nat.le_refl _))
  have HV5 := hidIt (HV4.out.kept fun i hi hl => hg5.block i hl (fun e => by injection e with e; omega))
  have HF5 := hidIt (FormAt.kept HF4.out hg5)
  have HK5 := hidIt (hg5.block pf (lt_of_block HK4.out) (fun e => by injection e with e; omega) ▸ HK4.out)
  clear hs5 hg5 HS4 HV4 HF4 HK4 HB4
  obtain ⟨b, off, rfl, p0, psz⟩ := HV5.out.at m (by rw [vocL_len]; omega)
  obtain ⟨c0, c1, c2⟩ := cell_of3 HK5.out
  have cl := lt_of_block HK5.out
  unfold maxLen at hvcm
  have HP : Hid ((vocL 4)[m]'(by rw [vocL_len]; omega) = letter m) := by show _ = _; simp [vocL]
  rw [HP.out] at p0 psz
  have GF := hidIt (goodF_gen HGF.out.1 HGF.out.2 (by omega))
  go_wp2_with fail
  refine (mod_at (by omega) GF.out _ HF5.out.free HV5.out).mono ?_
  rintro e w6 ⟨rfl, hb⟩
  have HB6 := hidIt (HB5.out.trans (Below.mono hb HB5.out.size))
  have HV6 := hidIt (HV5.out.go hb)
  have HF6 := hidIt (FormIn.go HF5.out.free hb)
  have HK6 := hidIt (blk_kept HK5.out hb)
  have HM : Hid (m < 4) := hm4
  clear hb HB5 HV5 HF5 HK5 c0 c1 c2 cl p0 hne hsz1 hsz2 hsz3 hm hm4 HP
  obtain ⟨c0, c1, c2⟩ := cell_of3 HK6.out
  have cl := lt_of_block HK6.out
  go_wp2_with fail
  have K0 := ext_cell c0
  have K1 := ext_cell c1
  have K2 := ext_cell c2
  have HNF : Hid (f.nodes ≤ 1000000) := Nat.le_trans (gen_nodes f 3 HGF.out.1 HGF.out.2) (by decide)
  clear c0 c1 c2
  haveI := Ext.nonempty w6
  refine wp_region_last (Ext w6) Grows (relTab [(32, isForm anyS (substT (letter m) unitT f)), (36, isForm anyS (substT (letter m) nullT f)), (37, isForms anyS [substT (letter m) unitT f, substT (letter m) nullT f]), (9, isBox w6.heap.size)]) _ rfl rfl (by kernel_rfl) (by kernel_rfl) (by kernel_rfl) (by kernel_rfl) (stable_cons (isForm_up _ _) (stable_cons (isForm_up _ _) (stable_cons (isForms_up _ _) (stable_cons (isBox_up _) (stable_nil _))))) (Ext.start w6) ?_
  simp only [idleLast]
  repeat (
    refine' walkR_plain (by kernel_rfl) rfl rfl (fun wx hC hL => ?_) ?_
    rotate_left
    · (go_simp; exact ⟨rfl, rfl⟩)
    simp only [Act.put, List.setIfInBounds_toArray, List.set_cons_zero, List.set_cons_succ])
  refine walkR_rel (by kernel_rfl) rfl rfl (of_decide_eq_true (by kernel_rfl)) (fun wx hC hL => ?_) (fun v hv => ?_)
  · go_simp
    exact rel_sub hC HNF.out (by decide) (hC.form HF6.out) (FormIn.mk (op := 1) (FormsIn.nil none) rfl (i64_small (by omega) (by omega)) nil_le (Nat.le_refl _) (Nat.zero_le _))
  obtain ⟨_, _, hv⟩ := hv
  obtain ⟨a1, k1, _, _, rfl, -⟩ := FormIn.form hv
  clear hv
  simp only [Act.put, List.setIfInBounds_toArray, List.set_cons_zero, List.set_cons_succ]
  repeat (
    refine' walkR_plain (by kernel_rfl) rfl rfl (fun wx hC hL => ?_) ?_
    rotate_left
    · (go_simp; exact ⟨rfl, rfl⟩)
    simp only [Act.put, List.setIfInBounds_toArray, List.set_cons_zero, List.set_cons_succ])
  refine walkR_rel (by kernel_rfl) rfl rfl (of_decide_eq_true (by kernel_rfl)) (fun wx hC hL => ?_) (fun v hv => ?_)
  · go_simp
    exact rel_sub hC HNF.out (by decide) (hC.form HF6.out) (FormIn.mk (op := 2) (FormsIn.nil none) rfl (i64_small (by omega) (by omega)) nil_le (Nat.le_refl _) (Nat.zero_le _))
  obtain ⟨_, _, hv⟩ := hv
  obtain ⟨a2, k2, _, _, rfl, -⟩ := FormIn.form hv
  clear hv
  simp only [Act.put, List.setIfInBounds_toArray, List.set_cons_zero, List.set_cons_succ]
  refine walkR_rel (by kernel_rfl) rfl rfl (of_decide_eq_true (by kernel_rfl)) (fun wx hC hL => ?_) (fun v hv => ?_)
  · go_simp
    exact ⟨hC.grown (Grows.alloc _ _), Grows.alloc _ _, isForms_two (anyS_all _) (hL.get 32 (by simp [more]) (by kernel_rfl) rfl rfl) (hL.get 36 (by simp [more]) (by kernel_rfl) rfl rfl)⟩
  obtain ⟨_, _, a3, k3, rfl, h3c, h3m, -⟩ := hv
  simp only [Act.put, List.setIfInBounds_toArray, List.set_cons_zero, List.set_cons_succ]
  repeat (
    refine' walkR_plain (by kernel_rfl) rfl rfl (fun wx hC hL => ?_) ?_
    rotate_left
    · (go_simp; exact ⟨rfl, rfl⟩)
    simp only [Act.put, List.setIfInBounds_toArray, List.set_cons_zero, List.set_cons_succ])
  refine walkR_rel (by kernel_rfl) rfl rfl (of_decide_eq_true (by kernel_rfl)) (fun wx hC hL => ?_) (fun v hv => ?_)
  · go_simp
    exact ⟨hC.grown (Grows.alloc _ _), Grows.alloc _ _, _, rfl, Below.size hC, heap_alloc_new _ _⟩
  obtain ⟨_, _, nb, rfl, hnb, -⟩ := hv
  simp only [Act.put, List.setIfInBounds_toArray, List.set_cons_zero, List.set_cons_succ]
  refine walkR_idle rfl (fun wx _ => Below.refl _ _) ?_
  refine fun w20 hE20 hK => ?_
  have h37 : isForms anyS [substT (letter m) unitT f, substT (letter m) nullT f] (.slice a3 2 k3) w20 := hK 37 (by simp [more]) _ rfl
  have h9 : isBox w6.heap.size (.pointer (some ⟨nb, 0, none⟩)) w20 := hK 9 (by simp [more]) _ rfl
  clear hK
  obtain ⟨a', k', e, h1, h2, h3⟩ := h37
  injection e with e1 e2 e3
  subst e1 e3
  obtain ⟨nb', e, -, hz⟩ := h9
  injection e with e
  injection e with e
  injection e with e
  subst e
  have hfg := forg_good f m HGF.out
  have HU := FormIn.unbox hz (by intro _ _ e; cases e) (FormIn.mk (op := 6) h3 rfl (i64_small (by omega) (by omega)) nil_le h1 h2) (t := forgT f m) (all_imp (fun t => nodeG_kind) _ hfg.1)
  have HG := hidIt (goodF_gen hfg.1 hfg.2 (by omega))
  have HMOD := hidIt (forg_mod f m HM.out (wellF_gen HGF.out.1))
  have HID := hidIt (forg_idem (modM 4 f) m HM.out)
  have HLE := hidIt (forg_le f m HM.out)
  have HV20 : Hid (StrsIn w20 (fun i => i ≠ nb) _ (vocL 4)) := (HV6.out.mono (S' := fun i => i ≠ nb) (fun i hi _ => by omega)).go hE20
  have HNB : Hid (w.heap.size ≤ nb) := Nat.le_trans HB6.out.size hnb
  have HB20 := hidIt (HB6.out.trans (Below.mono hE20 HB6.out.size))
  have HU := hidIt HU
  have HZ := hidIt hz
  clear hfg h3 hE20 HV6 HB6 HF6 HK6 HGF HNF K0 K1 K2 cl hz
  obtain ⟨r0, r1, r2⟩ := cell_of3 HZ.out
  obtain ⟨f0, f1, f2⟩ := cells_free HZ.out
  have hrl := lt_of_block HZ.out
  simp only [List.getLast_cons_cons, List.getLast_singleton]
  go_wp2_with fail
  clear r0 r1 r2 f0 f1 f2 hrl
  have hsr := set_row w20 nb 0 (.int .i64 6) (.string ⟨#[]⟩) (.slice a3 2 k3)
  have hblk := set_blk3 (x' := .int .i64 6) (y' := .string ⟨#[]⟩) (z' := .slice a3 2 k3) HZ.out
  simp only [Nat.zero_add, Nat.reduceAdd] at hsr
  generalize (((w20.setCell ⟨nb, 0, none⟩ (.int .i64 6)).setCell ⟨nb, 1, none⟩ (.string ⟨#[]⟩)).setCell ⟨nb, 2, none⟩ (.slice a3 2 k3)) = w21 at *
  have HG21 := hidIt (FormIn.free (FormIn.kept HU.out (fun i hi hl => hsr.block i hl (fun e => hi.2 (by injection e)))))
  have HV21 := hidIt (HV20.out.kept (fun i hi hl => hsr.block i hl (fun e => hi (by injection e))))
  have HB21 := hidIt (below_of_row2 HB20.out hsr HNB.out)
  clear hsr hblk HU HV20 HB20 HZ
  refine (mod_at (by omega) HG.out _ HG21.out HV21.out).mono ?_
  rintro e w22 ⟨rfl, hb⟩
  rw [HMOD.out]
  have HB22 := hidIt (HB21.out.trans (Below.mono hb HB21.out.size))
  have HV22 := hidIt (HV21.out.go hb)
  clear hb HG21 HV21 HB21 HG HMOD
  obtain ⟨F, hF⟩ : ∃ F, forgetS (vocL 4) (modM 4 f) (letter m) = F := ⟨_, rfl⟩
  have hfor := fun (S : BitVec 64) (a : Option Addr) (c : Nat) (w : World) (Sp : Nat → Prop) (h : StrsIn w Sp a (vocL 4)) => forget_any (vocL 4) (vocL_B 4 (by omega)) S (letter m) a c w h
  rw [vocL_len] at hfor
  have HF1 := hidIt (hfor (modM 4 f))
  have HF2 := hidIt (hfor F)
  have hid2 := HID.out
  have hle := HLE.out
  rw [hF] at HF1 hid2 hle
  rw [hid2] at HF2
  have hand : bits .andNot .u64 ((modM 4 f).toNat : Int) (F.toNat : Int) = 0 := by rw [bits_andNot_bv, hle]; rfl
  rw [hF]
  clear hF hfor hid2 hle HID HLE
  have HSG22 := hidIt (HSG.out.go HB22.out)
  generalize modM 4 f = A at *
  go_wp2_with fail
  refine (HF1.out _ _ _ _ HV22.out).mono ?_
  rintro e w23 ⟨rfl, hb⟩
  have HB23 := hidIt (HB22.out.trans (Below.mono hb HB22.out.size))
  have HV23 := hidIt (HV22.out.go hb)
  have HSG23 := hidIt (HSG22.out.go hb)
  clear hb HB22 HV22 HSG22
  go_wp2_with fail
  refine (HF2.out _ _ _ _ HV23.out).mono ?_
  rintro e w24 ⟨rfl, hb⟩
  have HB24 := hidIt (HB23.out.trans (Below.mono hb HB23.out.size))
  have HSG24 := hidIt (HSG23.out.go hb)
  clear hb HB23 HV23 HSG23
  go_wp2_with fail
  refine (awake3_any _ HSG24.out).mono ?_
  rintro e x7 ⟨rfl, hb⟩
  have HB7 := hidIt (HB24.out.trans (Below.mono hb HB24.out.size))
  clear hb
  go_wp2_with fail
  go_ret
  exact ⟨rfl, HB7.out⟩
end Go.Proofs.YtmkcohcpdfabbaaDoor
