/- The law FormulaTexts: the call answers true for every formula and every list of numbers. -/
import Derived.Test.YtpiiadmjddikfaaDoorSmall
import Derived.Test.YtpiiadmjddikfaaDoorQFormat
import Derived.Test.YtpiiadmjddikfaaDoorSForm
import Derived.Test.YtpiiadmjddikfaaDoorNew
import Derived.Test.YtpiiadmjddikfaaDoorAwake2
import Derived.Test.YtpiiadmjddikfaaDoorGrowF
import Derived.Test.YtpiiadmjddikfaaDoorSize
import Derived.Test.YtpiiadmjddikfaaDoorSpB
namespace Go.Proofs.YtpiiadmjddikfaaDoor
set_option linter.unusedVariables false
set_option linter.unusedSimpArgs false
open Go Go.RowKit

/-- Names of built formulas are short. -/
theorem nodeG_short {n : Nat} {t : Tree} (h : nodeG n t = true) : nmLe 12 t = true := by
  unfold nmLe
  rw [decide_eq_true_eq]
  by_cases ho : t.op = 3
  · obtain ⟨m, -, e⟩ := nodeG_atom h ho
    rw [e]
    exact Nat.le_trans (Nat.le_of_eq rfl) (by omega : 1 ≤ 12)
  · have := nodeG_name h
    unfold nameB at this
    rw [if_neg ho] at this
    have : t.name.size = 0 := by simpa using this
    omega
theorem nmLe_all {t : Tree} {n N : Nat} (h : t.all (nodeG n) = true) (hN : 12 ≤ N) : t.all (nmLe N) = true := nmLe_up hN (all_imp (fun t => nodeG_short) t h)

/-- A formula outside block b, not large. -/
def isF (b M N : Nat) : Value → World → Prop := fun v w => ∃ (T : Tree) (o : Int) (s : ByteArray) (a : Option Addr) (m c : Nat), v = .agg #[.int .i64 o, .string s, .slice a m c] ∧ T.nodes ≤ M ∧ T.all (nmLe N) = true ∧ FormIn w (fun i => i ≠ b) (.agg #[.int .i64 o, .string s, .slice a m c]) T

/-- A row of four formulas outside block b. -/
def RowF (b g : Nat) (w : World) : Prop := ∀ k, k < 4 → ∃ (T : Tree) (o : Int) (s : ByteArray) (a : Option Addr) (m c : Nat), w.cell? ⟨g, k * 3, none⟩ = some (.int .i64 o) ∧ w.cell? ⟨g, k * 3 + 1, none⟩ = some (.string s) ∧ w.cell? ⟨g, k * 3 + 2, none⟩ = some (.slice a m c) ∧
  T.nodes ≤ 1000 ∧ FormIn w (fun i => i ≠ b) (.agg #[.int .i64 o, .string s, .slice a m c]) T
def isRowF (b : Nat) : Value → World → Prop := fun v w => ∃ g : Nat, v = .slice (some ⟨g, 0, none⟩) 4 4 ∧ g ≠ b ∧ g < w.heap.size ∧ RowF b g w

theorem FormIn.keptB {w w' : World} {b : Nat} {v : Value} {t : Tree} (h : FormIn w (fun i => i ≠ b) v t) (hg : w.grownBy w' (some b)) : FormIn w' (fun i => i ≠ b) v t := h.kept fun i hi hl => hg.block i hl (fun e => hi (by injection e))
theorem isF_kept {b M N : Nat} {v : Value} {w w' : World} (hg : w.grownBy w' (some b)) (h : isF b M N v w) : isF b M N v w' := by
  obtain ⟨T, o, s, a, m, c, h1, h2, h3, h4⟩ := h
  exact ⟨T, o, s, a, m, c, h1, h2, h3, h4.keptB hg⟩
theorem isRowF_kept {b : Nat} {v : Value} {w w' : World} (hg : w.grownBy w' (some b)) (h : isRowF b v w) : isRowF b v w' := by
  obtain ⟨g, h1, h2, h3, h4⟩ := h
  refine ⟨g, h1, h2, Nat.lt_of_lt_of_le h3 hg.size, fun k hk => ?_⟩
  obtain ⟨T, o, s, a, m, c, c0, c1, c2, hn, hf⟩ := h4 k hk
  have e := hg.block g h3 (fun e => h2 (by injection e))
  exact ⟨T, o, s, a, m, c, (World.cell?_of_block (a := ⟨g, _, none⟩) e).trans c0, (World.cell?_of_block (a := ⟨g, _, none⟩) e).trans c1, (World.cell?_of_block (a := ⟨g, _, none⟩) e).trans c2, hn, hf.keptB hg⟩

theorem row_four {b : Nat} {w : World} {T0 T1 T2 T3 : Tree} {o0 o1 o2 o3 : Int} {s0 s1 s2 s3 : ByteArray} {a0 a1 a2 a3 : Option Addr} {m0 m1 m2 m3 c0 c1 c2 c3 : Nat}
    (n0 : T0.nodes ≤ 1000) (n1 : T1.nodes ≤ 1000) (n2 : T2.nodes ≤ 1000) (n3 : T3.nodes ≤ 1000)
    (f0 : FormIn w (fun i => i ≠ b) (.agg #[.int .i64 o0, .string s0, .slice a0 m0 c0]) T0) (f1 : FormIn w (fun i => i ≠ b) (.agg #[.int .i64 o1, .string s1, .slice a1 m1 c1]) T1)
    (f2 : FormIn w (fun i => i ≠ b) (.agg #[.int .i64 o2, .string s2, .slice a2 m2 c2]) T2) (f3 : FormIn w (fun i => i ≠ b) (.agg #[.int .i64 o3, .string s3, .slice a3 m3 c3]) T3) (hb : b < w.heap.size) :
    isRowF b (.slice (some ⟨w.heap.size, 0, none⟩) 4 4) (w.alloc (.cells #[.int .i64 o0, .string s0, .slice a0 m0 c0, .int .i64 o1, .string s1, .slice a1 m1 c1, .int .i64 o2, .string s2, .slice a2 m2 c2, .int .i64 o3, .string s3, .slice a3 m3 c3] 24)) := by
  have hg : w.grownBy (w.alloc (.cells #[.int .i64 o0, .string s0, .slice a0 m0 c0, .int .i64 o1, .string s1, .slice a1 m1 c1, .int .i64 o2, .string s2, .slice a2 m2 c2, .int .i64 o3, .string s3, .slice a3 m3 c3] 24)) (some b) := only_alloc (only_refl _ _) _
  have hK := heap_alloc_new w (.cells #[.int .i64 o0, .string s0, .slice a0 m0 c0, .int .i64 o1, .string s1, .slice a1 m1 c1, .int .i64 o2, .string s2, .slice a2 m2 c2, .int .i64 o3, .string s3, .slice a3 m3 c3] 24)
  have hl := lt_of_block hK
  generalize (w.alloc (.cells #[.int .i64 o0, .string s0, .slice a0 m0 c0, .int .i64 o1, .string s1, .slice a1 m1 c1, .int .i64 o2, .string s2, .slice a2 m2 c2, .int .i64 o3, .string s3, .slice a3 m3 c3] 24)) = w' at *
  refine ⟨_, rfl, by omega, hl, fun k hk => ?_⟩
  rcases (by omega : k = 0 ∨ k = 1 ∨ k = 2 ∨ k = 3) with rfl | rfl | rfl | rfl
  · exact ⟨T0, o0, s0, a0, m0, c0, by simp [World.cell?, hK], by simp [World.cell?, hK], by simp [World.cell?, hK], n0, f0.keptB hg⟩
  · exact ⟨T1, o1, s1, a1, m1, c1, by simp [World.cell?, hK], by simp [World.cell?, hK], by simp [World.cell?, hK], n1, f1.keptB hg⟩
  · exact ⟨T2, o2, s2, a2, m2, c2, by simp [World.cell?, hK], by simp [World.cell?, hK], by simp [World.cell?, hK], n2, f2.keptB hg⟩
  · exact ⟨T3, o3, s3, a3, m3, c3, by simp [World.cell?, hK], by simp [World.cell?, hK], by simp [World.cell?, hK], n3, f3.keptB hg⟩

theorem spoilt_rel {B b N M : Nat} {zs : List Int} (hN12 : 12 ≤ N) (hN : N ≤ 1000) (hM : M ≤ 1000) {W w : World} {v : Value} (hC : W.grownBy w (some b) ∧ ∃ q, SrcAt w B b zs q) (hv : isF b M N v w) :
    Calls Tryd.prog 9 #[.pointer (some ⟨b, 0, none⟩), v] w fun e w'' => ∃ u, e = .returned u ∧ (W.grownBy w'' (some b) ∧ ∃ q, SrcAt w'' B b zs q) ∧ w.grownBy w'' (some b) ∧ isF b (M + 20) (N + 1) u w'' := by
  obtain ⟨hC1, q, hq⟩ := hC
  obtain ⟨T, o, s, a, m, c, rfl, h2, h3, h4⟩ := hv
  have hbl := hq.lt
  refine (spoilt_any N hN12 hN T (by omega) h3 B b zs q (fun i => i ≠ b) _ w hq (fun h => h rfl) h4).mono ?_
  rintro e w'' ⟨T', o', s', a', m', c', q', rfl, g1, g2, g3, g4, g5⟩
  exact ⟨_, rfl, ⟨only_trans hC1 g5, _, g4⟩, g5, T', o', s', a', m', c', rfl, by omega, g2, g3.mono fun i _ hi => by
    rcases hi with hi | hi
    · exact hi.1
    · omega⟩

set_option maxRecDepth 100000 in
set_option maxHeartbeats 8000000 in
theorem ftexts_walk (v0 : Value) (t0 : Tree) (v : Value) (zs : List Int) (w : World) (h0 : FormAt w none v0 t0) (hz : IntsAt w w.heap.size v zs) (hsg : SignsAt w) : Calls Tryd.prog 3 #[v0, v] w fun e w' => e = .returned (.bool true) ∧ Below w.heap.size w w' := by
  have HSG := hidIt hsg
  obtain ⟨a0, cap0, -, -, rfl, hop, hname, hlen, hcap, -, -⟩ := h0.form
  have hgr : Below w.heap.size w (w.alloc (.cells #[.int .i64 t0.op, .string t0.name, .slice a0 t0.args.length cap0] 24)) := Grows.alloc _ _
  have HF0 := hidIt (FormAt.go h0 hgr)
  have HK0 := hidIt (heap_alloc_new w (.cells #[.int .i64 t0.op, .string t0.name, .slice a0 t0.args.length cap0] 24))
  have HZ0 : Hid (IntsAt (w.alloc (.cells #[.int .i64 t0.op, .string t0.name, .slice a0 t0.args.length cap0] 24)) w.heap.size v zs) := hz.kept (only_of_below hgr none) (fun g e => by cases e)
  have HB0 := hidIt hgr
  have HTN := hidIt hname
  clear hsg h0 hz hgr hop hname hlen hcap
  go_enter Tryd.func3, Tryd.ntmps3
  go_wp2_with fail
  generalize hWa : (w.alloc (.cells #[.int .i64 t0.op, .string t0.name, .slice a0 t0.args.length cap0] 24)) = w0 at *
  clear hWa
  refine (ksmall_any t0 _ _ HF0.out).mono ?_
  rintro e w1 ⟨rfl, hb1⟩
  have HF1 := hidIt (HF0.out.go hb1)
  have HK1 := hidIt (blk_kept HK0.out hb1)
  have HZ1 := hidIt (HZ0.out.kept (only_of_below hb1 none) (fun g e => by cases e))
  have HB1 := hidIt (HB0.out.trans (Below.mono hb1 HB0.out.size))
  clear hb1 HF0 HK0 HZ0 HB0
  by_cases hs : (decide (t0.nodes ≤ 800) && decide (t0.depth ≤ 30) && t0.all shortB) = true
  case neg =>
    have hs' : (decide (t0.nodes ≤ 800) && decide (t0.depth ≤ 30) && t0.all shortB) = false := by simpa using hs
    rw [hs']
    clear hs hs'
    go_wp2_with fail
    go_ret
    exact ⟨rfl, HB1.out⟩
  case pos =>
  have HN0 : Hid (t0.nodes ≤ 800) := by
    rw [Bool.and_eq_true, Bool.and_eq_true, decide_eq_true_eq] at hs
    exact hs.1.1
  rw [hs]
  clear hs
  have hpl1 := lt_of_block HK1.out
  go_wp2_with fail
  refine (new_any v zs w.heap.size w1 HZ1.out HB1.out.size).mono ?_
  rintro e w2 ⟨zs1, rfl, hs2, o2, hw2⟩
  have HS2 := hidIt hs2
  have hb2 : Below w1.heap.size w1 w2 := by rw [hw2]; exact Grows.alloc _ _
  have HF2 := hidIt (HF1.out.go hb2)
  have HK2 := hidIt (blk_kept HK1.out hb2)
  have HB2 := hidIt (HB1.out.trans (Below.mono hb2 HB1.out.size))
  have HFB2 : Hid (FormIn w2 (fun i => i ≠ w1.heap.size) (.agg #[.int .i64 t0.op, .string t0.name, .slice a0 t0.args.length cap0]) t0) :=
    FormIn.go (FormIn.mono HF1.out fun i hi _ => by omega) hb2
  have hbl := hs2.lt
  have hbw : w.heap.size ≠ w1.heap.size := by omega
  have hbw2 : w.heap.size ≤ w1.heap.size := by omega
  clear hs2 hw2 hb2 HF1 HK1 HZ1 HB1 HF2 hpl1
  generalize w1.heap.size = b at *
  go_wp2_with fail
  refine (sform_any 4 (by omega) (by omega) 4 (by omega) _ _ zs1 0 w2 HS2.out).mono ?_
  rintro e w3 ⟨f, fo, fs, fa, fm, fc, q3, rfl, hf1, hfd, hf3, hs3, hg3⟩
  have HNF : Hid (f.nodes ≤ 121) := Nat.le_trans (gen_nodes f 4 hf1 hfd) (by decide)
  have HMF := hidIt (nmLe_all (N := 12) hf1 (by omega))
  have HS3 := hidIt hs3
  have HK3 := hidIt ((hg3.block _ (lt_of_block HK2.out) (fun e => hbw (by injection e))).trans HK2.out)
  have HB3 := hidIt (only_trans (only_of_below HB2.out (some b)) hg3)
  have HFB3 := hidIt (HFB2.out.keptB hg3)
  have HFG3 : Hid (FormIn w3 (fun i => i ≠ b) (.agg #[.int .i64 fo, .string fs, .slice fa fm fc]) f) := hf3.mono fun i _ hi => by omega
  have hbl3 := hs3.lt
  clear hf1 hfd hf3 hs3 hg3 HS2 HK2 HB2 HFB2 hbl
  have hgr : w3.grownBy (w3.alloc (.cells #[.int .i64 fo, .string fs, .slice fa fm fc] 24)) (some b) := only_alloc (only_refl _ _) _
  have HS4 := hidIt (HS3.out.alloc (.cells #[.int .i64 fo, .string fs, .slice fa fm fc] 24))
  have HK4 := hidIt ((hgr.block _ (lt_of_block HK3.out) (fun e => hbw (by injection e))).trans HK3.out)
  have HG4 := hidIt (heap_alloc_new w3 (.cells #[.int .i64 fo, .string fs, .slice fa fm fc] 24))
  have HB4 := hidIt (only_trans HB3.out hgr)
  have HFB4 := hidIt (HFB3.out.keptB hgr)
  have HFG4 := hidIt (HFG3.out.keptB hgr)
  have hpg : w3.heap.size ≠ b := by omega
  clear hgr HS3 HK3 HB3 HFB3 HFG3 hbl3
  go_wp2_with fail
  generalize hWa : (w3.alloc (.cells #[.int .i64 fo, .string fs, .slice fa fm fc] 24)) = w4 at *
  clear hWa
  generalize w3.heap.size = pg at *
  obtain ⟨K0, K1, K2⟩ := cell_of3 HK4.out
  obtain ⟨G0, G1, G2⟩ := cell_of3 HG4.out
  have hkl := lt_of_block HK4.out
  have hgl := lt_of_block HG4.out
  have HFB := hidIt HFB4.out
  have X0 : ∀ wx, (w4.grownBy wx (some b) ∧ ∃ q, SrcAt wx w.heap.size b zs1 q) → wx.cell? ⟨w.heap.size, 0, none⟩ = some (.int .i64 t0.op) := fun wx hC => hC.1.cell K0 (fun e => hbw (by injection e))
  have X1 : ∀ wx, (w4.grownBy wx (some b) ∧ ∃ q, SrcAt wx w.heap.size b zs1 q) → wx.cell? ⟨w.heap.size, 1, none⟩ = some (.string t0.name) := fun wx hC => hC.1.cell K1 (fun e => hbw (by injection e))
  have X2 : ∀ wx, (w4.grownBy wx (some b) ∧ ∃ q, SrcAt wx w.heap.size b zs1 q) → wx.cell? ⟨w.heap.size, 2, none⟩ = some (.slice a0 t0.args.length cap0) := fun wx hC => hC.1.cell K2 (fun e => hbw (by injection e))
  have Y0 : ∀ wx, (w4.grownBy wx (some b) ∧ ∃ q, SrcAt wx w.heap.size b zs1 q) → wx.cell? ⟨pg, 0, none⟩ = some (.int .i64 fo) := fun wx hC => hC.1.cell G0 (fun e => hpg (by injection e))
  have Y1 : ∀ wx, (w4.grownBy wx (some b) ∧ ∃ q, SrcAt wx w.heap.size b zs1 q) → wx.cell? ⟨pg, 1, none⟩ = some (.string fs) := fun wx hC => hC.1.cell G1 (fun e => hpg (by injection e))
  have Y2 : ∀ wx, (w4.grownBy wx (some b) ∧ ∃ q, SrcAt wx w.heap.size b zs1 q) → wx.cell? ⟨pg, 2, none⟩ = some (.slice fa fm fc) := fun wx hC => hC.1.cell G2 (fun e => hpg (by injection e))
  have hbl4 := HS4.out.lt
  clear K0 K1 K2 G0 G1 G2
  have HEND : Hid True := trivial
  haveI : Nonempty (In (Ext w4)) := Ext.nonempty w4
  refine wp_region_rel (fun wx => w4.grownBy wx (some b) ∧ ∃ q, SrcAt wx w.heap.size b zs1 q) (fun x y => x.grownBy y (some b)) (relTab [(24, isF b 141 13), (28, isF b 141 13), (29, isF b 161 14), (30, isRowF b)]) (by kernel_rfl) (by kernel_rfl) (by kernel_rfl) (fun s r hs v x y hx hy hg hr => ?_) ⟨only_of_below (Below.refl _ _).drew _, _, HS4.out.grow (only_of_below (Below.refl _ _).drew none)⟩ ?_
  · unfold relTab at hs
    split at hs
    · injection hs with hs
      subst hs
      exact isF_kept hg hr
    unfold relTab at hs
    split at hs
    · injection hs with hs
      subst hs
      exact isF_kept hg hr
    unfold relTab at hs
    split at hs
    · injection hs with hs
      subst hs
      exact isF_kept hg hr
    unfold relTab at hs
    split at hs
    · injection hs with hs
      subst hs
      exact isRowF_kept hg hr
    · cases hs
  repeat (
    refine' walkR_plain (by kernel_rfl) rfl rfl (fun wx hC hL => ?_) ?_
    rotate_left
    · (have hlw := Nat.lt_of_lt_of_le hkl hC.1.size
       have hlg := Nat.lt_of_lt_of_le hgl hC.1.size
       simp only [X0 wx hC, X1 wx hC, X2 wx hC, Y0 wx hC, Y1 wx hC, Y2 wx hC, hlw, hlg, go_sem]; first | done | (go_simp; exact ⟨rfl, rfl⟩))
    simp only [Act.put, List.setIfInBounds_toArray, List.set_cons_zero, List.set_cons_succ])
  refine walkR_rel (by kernel_rfl) rfl rfl (of_decide_eq_true (by kernel_rfl)) (fun wx hC hL => ?_) (fun v hv => ?_)
  · go_simp
    exact spoilt_rel (by omega) (by omega) (by omega) hC (M := 121) (N := 12) ⟨f, _, _, _, _, _, rfl, HNF.out, HMF.out, HFG4.out.keptB hC.1⟩
  obtain ⟨_, _, T24, o24, s24, a24, m24, c24, rfl, -⟩ := hv
  simp only [Act.put, List.setIfInBounds_toArray, List.set_cons_zero, List.set_cons_succ]
  repeat (
    refine' walkR_plain (by kernel_rfl) rfl rfl (fun wx hC hL => ?_) ?_
    rotate_left
    · (have hlw := Nat.lt_of_lt_of_le hkl hC.1.size
       have hlg := Nat.lt_of_lt_of_le hgl hC.1.size
       simp only [X0 wx hC, X1 wx hC, X2 wx hC, Y0 wx hC, Y1 wx hC, Y2 wx hC, hlw, hlg, go_sem]; first | done | (go_simp; exact ⟨rfl, rfl⟩))
    simp only [Act.put, List.setIfInBounds_toArray, List.set_cons_zero, List.set_cons_succ])
  refine walkR_rel (by kernel_rfl) rfl rfl (of_decide_eq_true (by kernel_rfl)) (fun wx hC hL => ?_) (fun v hv => ?_)
  · go_simp
    exact spoilt_rel (by omega) (by omega) (by omega) hC (M := 121) (N := 12) ⟨f, _, _, _, _, _, rfl, HNF.out, HMF.out, HFG4.out.keptB hC.1⟩
  obtain ⟨_, _, T28, o28, s28, a28, m28, c28, rfl, -⟩ := hv
  simp only [Act.put, List.setIfInBounds_toArray, List.set_cons_zero, List.set_cons_succ]
  refine walkR_rel (by kernel_rfl) rfl rfl (of_decide_eq_true (by kernel_rfl)) (fun wx hC hL => ?_) (fun v hv => ?_)
  · go_simp
    exact spoilt_rel (by omega) (by omega) (by omega) hC (M := 141) (N := 13) (hL.get 28 (by simp [more]) (by kernel_rfl) rfl rfl)
  obtain ⟨_, _, T29, o29, s29, a29, m29, c29, rfl, -⟩ := hv
  simp only [Act.put, List.setIfInBounds_toArray, List.set_cons_zero, List.set_cons_succ]
  refine walkR_rel (by kernel_rfl) rfl rfl (of_decide_eq_true (by kernel_rfl)) (fun wx hC hL => ?_) (fun v hv => ?_)
  · obtain ⟨U2, _, _, _, _, _, e2, n2, -, f2⟩ : isF b 141 13 (.agg #[.int .i64 o24, .string s24, .slice a24 m24 c24]) wx := hL.get 24 (by simp [more]) (by kernel_rfl) rfl rfl
    obtain ⟨U3, _, _, _, _, _, e3, n3, -, f3⟩ : isF b 161 14 (.agg #[.int .i64 o29, .string s29, .slice a29 m29 c29]) wx := hL.get 29 (by simp [more]) (by kernel_rfl) rfl rfl
    simp at e2 e3
    obtain ⟨rfl, rfl, rfl, rfl, rfl⟩ := e2
    obtain ⟨rfl, rfl, rfl, rfl, rfl⟩ := e3
    have h0 := HN0.out
    have h1 := HNF.out
    have hr := row_four (by omega) (by omega) (by omega) (by omega) (HFB.out.keptB hC.1) (HFG4.out.keptB hC.1) f2 f3 (Nat.lt_of_lt_of_le hbl4 hC.1.size)
    go_simp
    exact ⟨⟨only_alloc hC.1 _, hC.2.imp fun _ h => h.alloc _⟩, only_alloc (only_refl _ _) _, hr⟩
  obtain ⟨_, _, g, rfl, hgb, -, -⟩ := hv
  simp only [Act.put, List.setIfInBounds_toArray, List.set_cons_zero, List.set_cons_succ]
  repeat (
    refine' walkR_plain (by kernel_rfl) rfl rfl (fun wx hC hL => ?_) ?_
    rotate_left
    · (have hlw := Nat.lt_of_lt_of_le hkl hC.1.size
       have hlg := Nat.lt_of_lt_of_le hgl hC.1.size
       simp only [X0 wx hC, X1 wx hC, X2 wx hC, Y0 wx hC, Y1 wx hC, Y2 wx hC, hlw, hlg, go_sem]; first | done | (go_simp; exact ⟨rfl, rfl⟩))
    simp only [Act.put, List.setIfInBounds_toArray, List.set_cons_zero, List.set_cons_succ])
  refine fun w6 hC6 hK => ?_
  have h30 : isRowF b (.slice (some ⟨g, 0, none⟩) 4 4) w6 := hK 30 (by simp [more]) _ rfl
  obtain ⟨g', e, -, hg6, hrow⟩ := h30
  injection e with e
  injection e with e
  injection e with e
  subst e
  have HROW := hidIt hrow
  have HB6 := hidIt (below_of_only (only_trans HB4.out hC6.1) hbw2)
  clear hK hC6 hrow X0 X1 X2 Y0 Y1 Y2 HB4 HFB4 HFG4 HG4 HK4 HS4 HFB HEND
  clear hbl4 hkl hgl hpg HNF HMF HN0 HTN
  go_wp2_with fail
  go_loopw [8, 9, 10, 11, 12, 32] (fun _ _ _ _ _ i wr => ∃ k : Nat, k ≤ 4 ∧ i = .int .i64 k ∧ Hid (Below w6.heap.size w6 wr)) (fun _ _ _ _ _ i _ => 4 - (intOf i).toNat)
  case atStart => exact ⟨0, by omega, rfl, Below.refl _ _⟩
  case round =>
    obtain ⟨k, hk, rfl, hbel⟩ := hrel
    have HBw := hidIt (HB6.out.trans (Below.mono hbel.out HB6.out.size))
    by_cases hlt : k < 4
    · obtain ⟨T, o, s, a, m, c, c0', c1', c2', hn, hf⟩ := HROW.out k hlt
      have c0 := (hbel.out.cell (p := ⟨g, k * 3, none⟩) hg6).trans c0'
      have c1 := (hbel.out.cell (p := ⟨g, k * 3 + 1, none⟩) hg6).trans c1'
      have c2 := (hbel.out.cell (p := ⟨g, k * 3 + 2, none⟩) hg6).trans c2'
      have hlt0 : (k : Int) < 4 := by omega
      have hk0 : (0 : Int) ≤ (k : Int) := by omega
      have hgr : Below wr.heap.size wr (wr.alloc (.cells #[.int .i64 o, .string s, .slice a m c] 24)) := Grows.alloc _ _
      have HF7 := hidIt ((hf.free.go hbel.out).go hgr)
      have HK7 := hidIt (heap_alloc_new wr (.cells #[.int .i64 o, .string s, .slice a m c] 24))
      have HB7 := hidIt (hbel.out.trans (Below.mono hgr hbel.out.size))
      have HN := hidIt (Nat.le_trans hn (by omega : 1000 ≤ 1000000000))
      clear c0' c1' c2' hn hf hgr
      go_wp2_with fail
      clear c0 c1 c2
      generalize hWa : (wr.alloc (.cells #[.int .i64 o, .string s, .slice a m c] 24)) = w7 at *
      clear hWa
      generalize wr.heap.size = pf at *
      refine (fformat_any T _ _ HF7.out).mono ?_
      rintro e w8 ⟨rfl, hb⟩
      have HF8 := hidIt (HF7.out.go hb)
      have HK8 := hidIt (blk_kept HK7.out hb)
      have HB8 := hidIt (HB7.out.trans (Below.mono hb HB7.out.size))
      clear hb HF7 HK7 HB7
      obtain ⟨f0, f1, f2⟩ := cell_of3 HK8.out
      have fl := lt_of_block HK8.out
      go_wp2_with fail
      clear f0 f1 f2 fl
      refine (qformat_any T _ _ HF8.out HN.out).mono ?_
      rintro e w9 ⟨rfl, hb⟩
      have HF9 := hidIt (HF8.out.go hb)
      have HK9 := hidIt (blk_kept HK8.out hb)
      have HB9 := hidIt (HB8.out.trans (Below.mono hb HB8.out.size))
      clear hb HF8 HK8 HB8
      generalize fmtT T = y at *
      generalize fmtI T = E at *
      go_wp2_with fail
      obtain ⟨f0, f1, f2⟩ := cell_of3 HK9.out
      have fl := lt_of_block HK9.out
      have K0 : ∀ wx, Ext w9 wx → wx.cell? ⟨pf, 0, none⟩ = some (.int .i64 o) := ext_cell3 f0
      have K1 : ∀ wx, Ext w9 wx → wx.cell? ⟨pf, 1, none⟩ = some (.string s) := ext_cell3 f1
      have K2 : ∀ wx, Ext w9 wx → wx.cell? ⟨pf, 2, none⟩ = some (.slice a m c) := ext_cell3 f2
      clear f0 f1 f2
      haveI : Nonempty (In (Ext w9)) := Ext.nonempty w9
      have H1 : Hid (∀ wx, Ext w9 wx → Calls Tryd.prog 12 #[.agg #[.int .i64 o, .string s, .slice a m c]] wx fun e w'' => ∃ u, e = .returned u ∧ Ext w9 w'' ∧ Grows wx w'' ∧ Own.isVal (.int .i64 T.nodes) u w'') := fun wx hC => rel_call hC ((size_any T _ _ (hC.form HF9.out) HN.out).mono fun e w'' ⟨he, hb⟩ => ⟨_, he, rfl, hb⟩)
      have H2 : Hid (∀ wx, Ext w9 wx → Calls Tryd.prog 13 #[.agg #[.int .i64 o, .string s, .slice a m c]] wx fun e w'' => ∃ u, e = .returned u ∧ Ext w9 w'' ∧ Grows wx w'' ∧ Own.isVal (.int .i64 T.nodes) u w'') := fun wx hC => rel_call hC ((qsize_any T _ _ (hC.form HF9.out) HN.out).mono fun e w'' ⟨he, hb⟩ => ⟨_, he, rfl, hb⟩)
      have H3 : Hid (∀ wx, Ext w9 wx → Calls Tryd.prog 14 #[.agg #[.int .i64 o, .string s, .slice a m c]] wx fun e w'' => ∃ u, e = .returned u ∧ Ext w9 w'' ∧ Grows wx w'' ∧ Own.isVal (.int .i64 T.depth) u w'') := fun wx hC => rel_call hC ((depth_any T _ _ (hC.form HF9.out) HN.out).mono fun e w'' ⟨he, hb⟩ => ⟨_, he, rfl, hb⟩)
      have H4 : Hid (∀ wx, Ext w9 wx → Calls Tryd.prog 15 #[.agg #[.int .i64 o, .string s, .slice a m c]] wx fun e w'' => ∃ u, e = .returned u ∧ Ext w9 w'' ∧ Grows wx w'' ∧ Own.isVal (.int .i64 T.depth) u w'') := fun wx hC => rel_call hC ((qdepth_any T _ _ (hC.form HF9.out) HN.out).mono fun e w'' ⟨he, hb⟩ => ⟨_, he, rfl, hb⟩)
      have H5 : Hid (∀ wx, Ext w9 wx → Calls Tryd.prog 16 #[.agg #[.int .i64 o, .string s, .slice a m c]] wx fun e w'' => ∃ u, e = .returned u ∧ Ext w9 w'' ∧ Grows wx w'' ∧ Own.isVal (.int .i64 (valE T)) u w'') := fun wx hC => rel_call hC ((validate_any T _ _ (hC.form HF9.out)).mono fun e w'' ⟨he, hb⟩ => ⟨_, he, rfl, hb⟩)
      have H6 : Hid (∀ wx, Ext w9 wx → Calls Tryd.prog 17 #[.agg #[.int .i64 o, .string s, .slice a m c]] wx fun e w'' => ∃ u, e = .returned u ∧ Ext w9 w'' ∧ Grows wx w'' ∧ Own.isVal (.int .i64 (valE T)) u w'') := fun wx hC => rel_call hC ((qvalidate_any T _ _ (hC.form HF9.out) HN.out).mono fun e w'' ⟨he, hb⟩ => ⟨_, he, rfl, hb⟩)
      generalize hTn : (T.nodes : Int) = tn at *
      generalize hTd : (T.depth : Int) = td at *
      generalize hTv : valE T = tv at *
      clear hTn hTd hTv HF9 HK9
      refine wp_region_rel (Ext w9) Grows (relTab [(47, Own.isVal (.int .i64 tn)), (49, Own.isVal (.int .i64 tn)), (53, Own.isVal (.int .i64 td)), (55, Own.isVal (.int .i64 td)), (60, Own.isVal (.int .i64 tv)), (62, Own.isVal (.int .i64 tv))]) (by kernel_rfl) (by kernel_rfl) (by kernel_rfl) (stable_cons (Own.isVal_up _) (stable_cons (Own.isVal_up _) (stable_cons (Own.isVal_up _) (stable_cons (Own.isVal_up _) (stable_cons (Own.isVal_up _) (stable_cons (Own.isVal_up _) (stable_nil _))))))) (Ext.start w9) ?_
      repeat (
        refine' walkR_plain (by kernel_rfl) rfl rfl (fun wx hC hL => ?_) ?_
        rotate_left
        · (have hlw := Nat.lt_of_lt_of_le fl (Below.size hC)
           simp only [K0 wx hC, K1 wx hC, K2 wx hC, hlw, go_sem]; first | done | (go_simp; exact ⟨rfl, rfl⟩))
        simp only [Act.put, List.setIfInBounds_toArray, List.set_cons_zero, List.set_cons_succ])
      refine walkR_rel (by kernel_rfl) rfl rfl (of_decide_eq_true (by kernel_rfl)) (fun wx hC hL => ?_) (fun v hv => ?_)
      · go_simp
        exact H1.out wx hC
      obtain ⟨_, _, rfl⟩ := hv
      simp only [Act.put, List.setIfInBounds_toArray, List.set_cons_zero, List.set_cons_succ]
      repeat (
        refine' walkR_plain (by kernel_rfl) rfl rfl (fun wx hC hL => ?_) ?_
        rotate_left
        · (have hlw := Nat.lt_of_lt_of_le fl (Below.size hC)
           simp only [K0 wx hC, K1 wx hC, K2 wx hC, hlw, go_sem]; first | done | (go_simp; exact ⟨rfl, rfl⟩))
        simp only [Act.put, List.setIfInBounds_toArray, List.set_cons_zero, List.set_cons_succ])
      refine walkR_rel (by kernel_rfl) rfl rfl (of_decide_eq_true (by kernel_rfl)) (fun wx hC hL => ?_) (fun v hv => ?_)
      · go_simp
        exact H2.out wx hC
      obtain ⟨_, _, rfl⟩ := hv
      simp only [Act.put, List.setIfInBounds_toArray, List.set_cons_zero, List.set_cons_succ]
      repeat (
        refine' walkR_plain (by kernel_rfl) rfl rfl (fun wx hC hL => ?_) ?_
        rotate_left
        · (have hlw := Nat.lt_of_lt_of_le fl (Below.size hC)
           simp only [K0 wx hC, K1 wx hC, K2 wx hC, hlw, go_sem]; first | done | (go_simp; exact ⟨rfl, rfl⟩))
        simp only [Act.put, List.setIfInBounds_toArray, List.set_cons_zero, List.set_cons_succ])
      refine walkR_rel (by kernel_rfl) rfl rfl (of_decide_eq_true (by kernel_rfl)) (fun wx hC hL => ?_) (fun v hv => ?_)
      · go_simp
        exact H3.out wx hC
      obtain ⟨_, _, rfl⟩ := hv
      simp only [Act.put, List.setIfInBounds_toArray, List.set_cons_zero, List.set_cons_succ]
      repeat (
        refine' walkR_plain (by kernel_rfl) rfl rfl (fun wx hC hL => ?_) ?_
        rotate_left
        · (have hlw := Nat.lt_of_lt_of_le fl (Below.size hC)
           simp only [K0 wx hC, K1 wx hC, K2 wx hC, hlw, go_sem]; first | done | (go_simp; exact ⟨rfl, rfl⟩))
        simp only [Act.put, List.setIfInBounds_toArray, List.set_cons_zero, List.set_cons_succ])
      refine walkR_rel (by kernel_rfl) rfl rfl (of_decide_eq_true (by kernel_rfl)) (fun wx hC hL => ?_) (fun v hv => ?_)
      · go_simp
        exact H4.out wx hC
      obtain ⟨_, _, rfl⟩ := hv
      simp only [Act.put, List.setIfInBounds_toArray, List.set_cons_zero, List.set_cons_succ]
      repeat (
        refine' walkR_plain (by kernel_rfl) rfl rfl (fun wx hC hL => ?_) ?_
        rotate_left
        · (have hlw := Nat.lt_of_lt_of_le fl (Below.size hC)
           simp only [K0 wx hC, K1 wx hC, K2 wx hC, hlw, go_sem]; first | done | (go_simp; exact ⟨rfl, rfl⟩))
        simp only [Act.put, List.setIfInBounds_toArray, List.set_cons_zero, List.set_cons_succ])
      refine walkR_rel (by kernel_rfl) rfl rfl (of_decide_eq_true (by kernel_rfl)) (fun wx hC hL => ?_) (fun v hv => ?_)
      · go_simp
        exact H5.out wx hC
      obtain ⟨_, _, rfl⟩ := hv
      simp only [Act.put, List.setIfInBounds_toArray, List.set_cons_zero, List.set_cons_succ]
      repeat (
        refine' walkR_plain (by kernel_rfl) rfl rfl (fun wx hC hL => ?_) ?_
        rotate_left
        · (have hlw := Nat.lt_of_lt_of_le fl (Below.size hC)
           simp only [K0 wx hC, K1 wx hC, K2 wx hC, hlw, go_sem]; first | done | (go_simp; exact ⟨rfl, rfl⟩))
        simp only [Act.put, List.setIfInBounds_toArray, List.set_cons_zero, List.set_cons_succ])
      refine walkR_rel (by kernel_rfl) rfl rfl (of_decide_eq_true (by kernel_rfl)) (fun wx hC hL => ?_) (fun v hv => ?_)
      · go_simp
        exact H6.out wx hC
      obtain ⟨_, _, rfl⟩ := hv
      simp only [Act.put, List.setIfInBounds_toArray, List.set_cons_zero, List.set_cons_succ]
      repeat (
        refine' walkR_plain (by kernel_rfl) rfl rfl (fun wx hC hL => ?_) ?_
        rotate_left
        · (have hlw := Nat.lt_of_lt_of_le fl (Below.size hC)
           simp only [K0 wx hC, K1 wx hC, K2 wx hC, hlw, go_sem]; first | done | (go_simp; exact ⟨rfl, rfl⟩))
        simp only [Act.put, List.setIfInBounds_toArray, List.set_cons_zero, List.set_cons_succ])
      refine fun w10 hC10 _ => ?_
      have HB10 := hidIt (HB9.out.trans (Below.mono hC10 HB9.out.size))
      clear hC10 K0 K1 K2 H1 H2 H3 H4 H5 H6 fl
      go_wp2_with fail
      go_roundw
      case rel => exact ⟨k + 1, by omega, by go_num, HB10.out⟩
      case measure => simp [intOf]; omega
    · obtain rfl : k = 4 := by omega
      have HSGw := hidIt (HSG.out.go HBw.out)
      go_wp2_with fail
      refine (awake2_any _ HSGw.out).mono ?_
      rintro e w8 ⟨rfl, hb8⟩
      have HB8 := hidIt (HBw.out.trans (hb8.mono HBw.out.size))
      clear hb8
      go_wp2_with fail
      go_ret
      exact ⟨rfl, HB8.out⟩

end Go.Proofs.YtpiiadmjddikfaaDoor
