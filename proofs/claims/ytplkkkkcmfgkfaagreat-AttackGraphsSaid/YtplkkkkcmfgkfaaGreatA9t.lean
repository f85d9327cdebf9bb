/- Attacks at the chapter's two arguments. -/
import Derived.Test.YtplkkkkcmfgkfaaGreatA9s
import Derived.Test.YtplkkkkcmfgkfaaGreatA9c
namespace Go.Proofs.YtplkkkkcmfgkfaaGreat
set_option linter.unusedVariables false
set_option linter.unusedSimpArgs false
open Go Go.RowKit Go.Sort

theorem run_append_cells {w : World} {T e : TypeId} {k by' : Nat} (hE : ElemOf T e k by') (ty : TypeId) (B : Nat) (v : Value) (n : Nat) (xs : List Value) (hown : w.ownsRow B e k v n xs)
    (m c1 : Nat) (news : List Value) (hl1 : news.length = k) (hc : ∀ j u, news[j]? = some u → w.cell? ⟨m, j, none⟩ = some u) (hone : ∀ u ∈ news, u.oneCell' = true) (hlen : n ≤ 1000000) (hB : B ≤ w.heap.size) :
    ∃ v' w', (Builtin.append_ #[T, T] ty #[v, .slice (some ⟨m, 0, none⟩) 1 c1]).run Tryz.prog w = .ok v' w' ∧ w'.ownsRow B e k v' (n + 1) (xs ++ news) ∧ w.grownBy w' v.ownBlock := by
  obtain ⟨i, z, hi, hz, hk, hb, hzc⟩ := hE.info
  have hsm := hE.small
  subst hk hb
  have hl : news.length = 1 * i.size := by rw [hl1, Nat.one_mul]
  have hby : (n + 1) * i.bytes ≤ 140737488355328 := Nat.le_trans (Nat.mul_le_mul (show n + 1 ≤ 1000001 by omega) hsm) (by decide)
  have hnews : ∀ j u, news[j]? = some u → w.cell? ((⟨m, 0, none⟩ : Addr).add j) = some u := fun j u hj => by rw [addr_add0]; exact hc j u hj
  obtain ⟨v', w', hr, h2, h3, h4⟩ := run_append_own (P := Tryz.prog) w B T ty e i z i.size i.bytes hE.und hi hz rfl rfl hzc hE.pos v n xs hown ⟨m, 0, none⟩ 1 c1 _ hl hnews hone (by unfold maxLen; omega) hby hB
  exact ⟨v', w', hr, h2, h3⟩
theorem wpList_append_kc {w : World} {ops : Array Oper} {rest : List Oper} {o : Oper} {a : Act} {Q : Exit → Act → World → Prop} (hgd : o.guard = none) (s x : Operand) {T e : TypeId} {k by' : Nat} (hE : ElemOf T e k by')
    (ho : o.op = .call { callee := .builtin .append, args := #[s, x], argTypes := #[T, T] }) (B : Nat) (v : Value) (n : Nat) (xs : List Value) (hs : a.eval s = v) (hown : w.ownsRow B e k v n xs)
    (m c1 : Nat) (hx : a.eval x = .slice (some ⟨m, 0, none⟩) 1 c1) (news : List Value) (hl1 : news.length = k) (hc : ∀ j u, news[j]? = some u → w.cell? ⟨m, j, none⟩ = some u) (hone : ∀ u ∈ news, u.oneCell' = true) (hlen : n ≤ 1000000) (hB : B ≤ w.heap.size)
    (h : ∀ g cap w', w'.ownsRow B e k (.slice (some ⟨g, 0, none⟩) (n + 1) cap) (n + 1) (xs ++ news) → w.grownBy w' v.ownBlock → wpList Tryz.prog ops Q rest (a.put o.dst (.slice (some ⟨g, 0, none⟩) (n + 1) cap)) w') : wpList Tryz.prog ops Q (o :: rest) a w := by
  obtain ⟨v', w', hr, h2, h3⟩ := run_append_cells hE o.type B v n xs hown m c1 news hl1 hc hone hlen hB
  obtain ⟨g, cap, rfl, hg⟩ := owns_slice h2
  refine wpList_plain hgd fun K hK => ?_
  unfold Oper.wp execOp
  simp only [ho, resolve, invoke, builtin, Sem.run_bind, Sem.run_pure, Result.andThen_ok, List.map_toArray, List.map_cons, List.map_nil, hs, hx, hr]
  exact hK _ _ (h g cap w' h2 h3)

def isWeak9 (g : Bool) : Value → World → Prop := fun v w => ∃ gw : Nat, v = .slice (some ⟨gw, 0, none⟩) 1 1 ∧ CR w gw [.bool g, .string ⟨#[112]⟩, .int .i64 1]

set_option maxRecDepth 100000 in
set_option maxHeartbeats 4000000 in
theorem attacks_two (pb pc g c : Nat) (w : World) (h : CR w g argC) (hp : CR w pb premC) :
    Calls Tryz.prog 18 #[.agg #[.slice (some ⟨pb, 0, none⟩) 2 pc, .slice none 0 0, .slice none 0 0], .slice (some ⟨g, 0, none⟩) 2 c] w fun e w' => ∃ g' c' : Nat, e = .returned (.slice (some ⟨g', 0, none⟩) 2 c') ∧ w.heap.size ≤ g' ∧ 2 ≤ c' ∧ c' ≤ maxLen ∧ RW w' g' attB ∧ Below w.heap.size w w' := by
  have hgr := bgrow w (.cells #[.slice (some ⟨pb, 0, none⟩) 2 pc, .slice none 0 0, .slice none 0 0] 58)
  have HB0 := hidIt hgr
  have HA0 := hidIt (h.go hgr)
  have HP0 := hidIt (hp.go hgr)
  have HX0 := hidIt (heap_alloc_new w (.cells #[.slice (some ⟨pb, 0, none⟩) 2 pc, .slice none 0 0, .slice none 0 0] 58))
  have HL0 : Hid (w.heap.size + 1 ≤ (w.alloc (.cells #[.slice (some ⟨pb, 0, none⟩) 2 pc, .slice none 0 0, .slice none 0 0] 58)).heap.size) := by show _ ≤ _; simp
  clear hgr h hp
  go_enter Tryz.func18, Tryz.ntmps18
  go_upto_region 1 with (fail)
  generalize (w.alloc (.cells #[.slice (some ⟨pb, 0, none⟩) 2 pc, .slice none 0 0, .slice none 0 0] 58)) = u0 at *
  go_wp2_with fail
  refine wp_loop_rounds 3 ?_
  rw [rounds_succ]
  go_wp2_with fail
  refine (subs_leaf 0 (by decide) g c _ HA0.out).mono ?_
  rintro e u1 ⟨v, rfl, ho, hb⟩
  obtain ⟨gv, cv, rfl, -, -, -⟩ := ho.slice
  have HB1 := hidIt (HB0.out.trans (Below.mono hb (Nat.le_of_succ_le HL0.out)))
  have HA1 := hidIt (HA0.out.go hb)
  have HP1 := hidIt (HP0.out.go hb)
  have HX1 := hidIt (blk_kept2 HX0.out hb)
  have HL1 : Hid (w.heap.size + 1 ≤ u1.heap.size) := Nat.le_trans HL0.out hb.size
  clear HB0 HA0 HP0 HX0 HL0
  obtain ⟨gv', cv', hvv, -, lv, v0⟩ := ho.slice
  injection hvv with e1 e2 e3
  injection e1 with e1
  injection e1 with e1 e4 e5
  subst e1
  clear ho hb e4 e5 e2 e3
  go_wp2_with fail
  refine wp_loop_rounds 2 ?_
  rw [rounds_succ]
  obtain ⟨x0, x1, x2⟩ := base3x HX1.out
  have lx := lt_of_block HX1.out
  have X0 := fun wx (hC : Ext u1 wx) => (Below.cell (p := ⟨w.heap.size, 0, none⟩) hC lx).trans x0
  have X1 := fun wx (hC : Ext u1 wx) => (Below.cell (p := ⟨w.heap.size, 1, none⟩) hC lx).trans x1
  have X2 := fun wx (hC : Ext u1 wx) => (Below.cell (p := ⟨w.heap.size, 2, none⟩) hC lx).trans x2
  have A0 := fun wx (hC : Ext u1 wx) => (HA1.out.go hC).at_ 0 _ rfl
  have A1 := fun wx (hC : Ext u1 wx) => (HA1.out.go hC).at_ 1 _ rfl
  have A2 := fun wx (hC : Ext u1 wx) => (HA1.out.go hC).at_ 2 _ rfl
  have A3 := fun wx (hC : Ext u1 wx) => (HA1.out.go hC).at_ 3 _ rfl
  have A4 := fun wx (hC : Ext u1 wx) => (HA1.out.go hC).at_ 4 _ rfl
  have la := HA1.out.1
  go_upto_region 8 with (fail)
  haveI := Ext.nonempty u1
  refine wp_region_rel (Ext u1) Grows (relTab [(28, isWeak9 true)]) (by kernel_rfl) (by kernel_rfl) (by kernel_rfl) (fun t r hs v x y hx hy hg hr => ?_) (Ext.start u1) ?_
  · unfold relTab at hs
    split at hs
    · injection hs with hs
      subst hs
      obtain ⟨gw, h1, h2⟩ := hr
      exact ⟨gw, h1, h2.go hg⟩
    · cases hs
  repeat (
    refine' walkR_plain (by kernel_rfl) rfl rfl (fun wx hC hL => ?_) ?_
    rotate_left
    · (have hlx := Nat.lt_of_lt_of_le lx (Below.size hC)
       have hla := Nat.lt_of_lt_of_le la (Below.size hC)
       simp only [X0 wx hC, X1 wx hC, X2 wx hC, A0 wx hC, A1 wx hC, A2 wx hC, A3 wx hC, A4 wx hC, hlx, hla, go_sem]; first | done | (go_simp; exact ⟨rfl, rfl⟩))
    simp only [Act.put, List.setIfInBounds_toArray, List.set_cons_zero, List.set_cons_succ])
  refine walkR_rel (by kernel_rfl) rfl rfl (of_decide_eq_true (by kernel_rfl)) (fun wx hC hL => ?_) (fun v hv => ?_)
  · go_simp
    exact (weak_leaf0 pb pc wx (HP1.out.go hC)).mono fun e w' ⟨gw, he, hcr, hb⟩ => ⟨_, he, hC.grown hb, hb, gw, rfl, hcr⟩
  obtain ⟨_, _, gw, rfl, -⟩ := hv
  simp only [Act.put, List.setIfInBounds_toArray, List.set_cons_zero, List.set_cons_succ]
  repeat (
    refine' walkR_plain (by kernel_rfl) rfl rfl (fun wx hC hL => ?_) ?_
    rotate_left
    · (go_simp; exact ⟨rfl, rfl⟩)
    simp only [Act.put, List.setIfInBounds_toArray, List.set_cons_zero, List.set_cons_succ])
  refine fun u2 hb hK => ?_
  have HWK : Hid (CR u2 gw [.bool true, .string ⟨#[112]⟩, .int .i64 1])  := by
    obtain ⟨gw', e, hc⟩ : isWeak9 true (.slice (some ⟨gw, 0, none⟩) 1 1) u2 := hK 28 (by simp [more]) (isWeak9 true) rfl
    injection e with e
    injection e with e
    injection e with e
    subst e
    exact hc
  have hb : Below u1.heap.size u1 u2 := hb
  clear X0 X1 X2 A0 A1 A2 A3 A4 x0 x1 x2 lx la lv v0 hK
  have HB2 := hidIt (HB1.out.trans (Below.mono hb (Nat.le_of_succ_le HL1.out)))
  have HA2 := hidIt (HA1.out.go hb)
  have HP2 := hidIt (HP1.out.go hb)
  have HX2 := hidIt (blk_kept2 HX1.out hb)
  have HL2 : Hid (w.heap.size + 1 ≤ u2.heap.size) := Nat.le_trans HL1.out hb.size
  clear HB1 HA1 HP1 HX1 HL1
  clear hb
  go_wp2_with fail
  refine (attacksAt_leaf0 g c gw _ HA2.out HWK.out).mono ?_
  rintro e u3 ⟨g3, c3, rfl, hoa, hb⟩
  have HN3 : Hid (∀ j u, ([.int .i64 1, .int .i64 0, .int .i64 0, .int .i64 1] : List Value)[j]? = some u → u3.cell? ⟨g3, j, none⟩ = some u) := fun j u hj => owns_cell hoa rfl j u hj
  have HB3 := hidIt (HB2.out.trans (Below.mono hb (Nat.le_of_succ_le HL2.out)))
  have HA3 := hidIt (HA2.out.go hb)
  have HP3 := hidIt (HP2.out.go hb)
  have HX3 := hidIt (blk_kept2 HX2.out hb)
  have HL3 : Hid (w.heap.size + 1 ≤ u3.heap.size) := Nat.le_trans HL2.out hb.size
  clear HB2 HA2 HP2 HX2 HL2
  clear hb hoa HWK
  go_wp2_with (at_builtin; refine Hid.out ?_)
  refine hidIt ?_
  refine wpList_append_kc rfl _ _ elemA rfl (w.heap.size + 1) (.slice none 0 0) 0 [] rfl (World.ownsRow_nil _ _ _ _) g3 c3 rfl [.int .i64 1, .int .i64 0, .int .i64 0, .int .i64 1] rfl HN3.out (one_of (by rfl)) (by decide) HL3.out ?_
  intro gf0 cf0 u5 hown hgb
  have hb : Below u3.heap.size u3 u5 := below_app5 (Below.refl _ _) hgb (fun g e => by cases e) (Nat.le_refl _)
  have HB5 := hidIt (HB3.out.trans (Below.mono hb (Nat.le_of_succ_le HL3.out)))
  have HA5 := hidIt (HA3.out.go hb)
  have HP5 := hidIt (HP3.out.go hb)
  have HX5 := hidIt (blk_kept2 HX3.out hb)
  have HL5 : Hid (w.heap.size + 1 ≤ u5.heap.size) := Nat.le_trans HL3.out hb.size
  clear HB3 HA3 HP3 HX3 HL3
  have HO5 : Hid (OwnAt u5 (w.heap.size + 1) (.slice (some ⟨gf0, 0, none⟩) 1 cf0) 1 ([] ++ [.int .i64 1, .int .i64 0, .int .i64 0, .int .i64 1])) := hown
  clear hb hown hgb HN3
  go_wp2_with fail
  rw [rounds_succ]
  go_wp2_with fail
  rw [rounds_succ]
  go_wp2_with fail
  refine (subs_leaf 1 (by decide) g c _ HA5.out).mono ?_
  rintro e u6 ⟨v, rfl, ho, hb⟩
  obtain ⟨gv, cv, rfl, -, -, -⟩ := ho.slice
  have HB6 := hidIt (HB5.out.trans (Below.mono hb (Nat.le_of_succ_le HL5.out)))
  have HA6 := hidIt (HA5.out.go hb)
  have HP6 := hidIt (HP5.out.go hb)
  have HX6 := hidIt (blk_kept2 HX5.out hb)
  have HL6 : Hid (w.heap.size + 1 ≤ u6.heap.size) := Nat.le_trans HL5.out hb.size
  have HO6 := hidIt (HO5.out.go hb)
  clear HB5 HA5 HP5 HX5 HL5 HO5
  obtain ⟨gv', cv', hvv, -, lv, v0⟩ := ho.slice
  injection hvv with e1 e2 e3
  injection e1 with e1
  injection e1 with e1 e4 e5
  subst e1
  clear ho hb e4 e5 e2 e3
  go_wp2_with fail
  refine wp_loop_rounds 2 ?_
  rw [rounds_succ]
  obtain ⟨x0, x1, x2⟩ := base3x HX6.out
  have lx := lt_of_block HX6.out
  have X0 := fun wx (hC : Ext u6 wx) => (Below.cell (p := ⟨w.heap.size, 0, none⟩) hC lx).trans x0
  have X1 := fun wx (hC : Ext u6 wx) => (Below.cell (p := ⟨w.heap.size, 1, none⟩) hC lx).trans x1
  have X2 := fun wx (hC : Ext u6 wx) => (Below.cell (p := ⟨w.heap.size, 2, none⟩) hC lx).trans x2
  have A0 := fun wx (hC : Ext u6 wx) => (HA6.out.go hC).at_ 5 _ rfl
  have A1 := fun wx (hC : Ext u6 wx) => (HA6.out.go hC).at_ 6 _ rfl
  have A2 := fun wx (hC : Ext u6 wx) => (HA6.out.go hC).at_ 7 _ rfl
  have A3 := fun wx (hC : Ext u6 wx) => (HA6.out.go hC).at_ 8 _ rfl
  have A4 := fun wx (hC : Ext u6 wx) => (HA6.out.go hC).at_ 9 _ rfl
  have la := HA6.out.1
  go_upto_region 8 with (fail)
  haveI := Ext.nonempty u6
  refine wp_region_rel (Ext u6) Grows (relTab [(28, isWeak9 false)]) (by kernel_rfl) (by kernel_rfl) (by kernel_rfl) (fun t r hs v x y hx hy hg hr => ?_) (Ext.start u6) ?_
  · unfold relTab at hs
    split at hs
    · injection hs with hs
      subst hs
      obtain ⟨gw, h1, h2⟩ := hr
      exact ⟨gw, h1, h2.go hg⟩
    · cases hs
  repeat (
    refine' walkR_plain (by kernel_rfl) rfl rfl (fun wx hC hL => ?_) ?_
    rotate_left
    · (have hlx := Nat.lt_of_lt_of_le lx (Below.size hC)
       have hla := Nat.lt_of_lt_of_le la (Below.size hC)
       simp only [X0 wx hC, X1 wx hC, X2 wx hC, A0 wx hC, A1 wx hC, A2 wx hC, A3 wx hC, A4 wx hC, hlx, hla, go_sem]; first | done | (go_simp; exact ⟨rfl, rfl⟩))
    simp only [Act.put, List.setIfInBounds_toArray, List.set_cons_zero, List.set_cons_succ])
  refine walkR_rel (by kernel_rfl) rfl rfl (of_decide_eq_true (by kernel_rfl)) (fun wx hC hL => ?_) (fun v hv => ?_)
  · go_simp
    exact (weak_leaf1 pb pc wx (HP6.out.go hC)).mono fun e w' ⟨gw, he, hcr, hb⟩ => ⟨_, he, hC.grown hb, hb, gw, rfl, hcr⟩
  obtain ⟨_, _, gw, rfl, -⟩ := hv
  simp only [Act.put, List.setIfInBounds_toArray, List.set_cons_zero, List.set_cons_succ]
  repeat (
    refine' walkR_plain (by kernel_rfl) rfl rfl (fun wx hC hL => ?_) ?_
    rotate_left
    · (go_simp; exact ⟨rfl, rfl⟩)
    simp only [Act.put, List.setIfInBounds_toArray, List.set_cons_zero, List.set_cons_succ])
  refine fun u7 hb hK => ?_
  have HWK : Hid (CR u7 gw [.bool false, .string ⟨#[112]⟩, .int .i64 1])  := by
    obtain ⟨gw', e, hc⟩ : isWeak9 false (.slice (some ⟨gw, 0, none⟩) 1 1) u7 := hK 28 (by simp [more]) (isWeak9 false) rfl
    injection e with e
    injection e with e
    injection e with e
    subst e
    exact hc
  have hb : Below u6.heap.size u6 u7 := hb
  clear X0 X1 X2 A0 A1 A2 A3 A4 x0 x1 x2 lx la lv v0 hK
  have HB7 := hidIt (HB6.out.trans (Below.mono hb (Nat.le_of_succ_le HL6.out)))
  have HA7 := hidIt (HA6.out.go hb)
  have HP7 := hidIt (HP6.out.go hb)
  have HX7 := hidIt (blk_kept2 HX6.out hb)
  have HL7 : Hid (w.heap.size + 1 ≤ u7.heap.size) := Nat.le_trans HL6.out hb.size
  have HO7 := hidIt (HO6.out.go hb)
  clear HB6 HA6 HP6 HX6 HL6 HO6
  clear hb
  go_wp2_with fail
  refine (attacksAt_leaf1 g c gw _ HA7.out HWK.out).mono ?_
  rintro e u8 ⟨g3, c3, rfl, hoa, hb⟩
  have HN3 : Hid (∀ j u, ([.int .i64 0, .int .i64 1, .int .i64 1, .int .i64 1] : List Value)[j]? = some u → u8.cell? ⟨g3, j, none⟩ = some u) := fun j u hj => owns_cell hoa rfl j u hj
  have HB8 := hidIt (HB7.out.trans (Below.mono hb (Nat.le_of_succ_le HL7.out)))
  have HA8 := hidIt (HA7.out.go hb)
  have HP8 := hidIt (HP7.out.go hb)
  have HX8 := hidIt (blk_kept2 HX7.out hb)
  have HL8 : Hid (w.heap.size + 1 ≤ u8.heap.size) := Nat.le_trans HL7.out hb.size
  have HO8 := hidIt (HO7.out.go hb)
  clear HB7 HA7 HP7 HX7 HL7 HO7
  clear hb hoa HWK
  go_wp2_with (at_builtin; refine Hid.out ?_)
  refine hidIt ?_
  refine wpList_append_kc rfl _ _ elemA rfl (w.heap.size + 1) (.slice (some ⟨gf0, 0, none⟩) 1 cf0) 1 _ rfl HO8.out g3 c3 rfl [.int .i64 0, .int .i64 1, .int .i64 1, .int .i64 1] rfl HN3.out (one_of (by rfl)) (by decide) HL8.out ?_
  intro gf1 cf1 u10 hown hgb
  have hgf : w.heap.size + 1 ≤ gf0 := (owns_blk HO8.out gf0 rfl).1
  have HB10 := hidIt (below_app5 HB8.out hgb (fun g e => by injection e with e; have e : gf0 = g := e; omega) (Nat.le_of_succ_le HL8.out))
  have HO10 : Hid (OwnAt u10 (w.heap.size + 1) (.slice (some ⟨gf1, 0, none⟩) 2 cf1) 2 attA) := hown
  clear hown hgb HN3
  go_wp2_with fail
  rw [rounds_succ]
  go_wp2_with fail
  rw [rounds_succ]
  go_wp2_with fail
  refine (sort_two (w.heap.size + 1) gf1 cf1 _ HO10.out).mono ?_
  rintro e u11 ⟨rfl, hrw, hb⟩
  have HRW := hidIt hrw
  have HBF := hidIt (HB10.out.trans (Below.mono hb (Nat.le_succ _)))
  have HGF : Hid (w.heap.size ≤ gf1) := Nat.le_of_succ_le (owns_blk HO10.out gf1 rfl).1
  have HCF : Hid (2 ≤ cf1 ∧ cf1 ≤ maxLen) := by obtain ⟨a, c, e, h1, h2⟩ := shape_own HO10.out; injection e with e1 e2 e3; subst e3; exact ⟨h1, h2⟩
  clear hrw hb
  go_wp2_with fail
  go_ret
  exact ⟨gf1, cf1, rfl, HGF.out, HCF.out.1, HCF.out.2, HRW.out, HBF.out⟩
end Go.Proofs.YtplkkkkcmfgkfaaGreat
