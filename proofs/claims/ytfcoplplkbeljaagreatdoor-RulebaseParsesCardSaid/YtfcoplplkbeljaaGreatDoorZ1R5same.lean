/- The reference's Same at lists of literals and at rule bases, for all that lie in memory. -/
import Derived.Test.YtfcoplplkbeljaaGreatDoorZ1D

namespace Go.Proofs.YtfcoplplkbeljaaGreatDoor
set_option linter.unusedVariables false
set_option linter.unusedSimpArgs false
open Go Go.RowKit

set_option maxRecDepth 100000 in
set_option maxHeartbeats 2000000 in
theorem r1same_any (xs ys : List Lt) (v u : Value) (w : World) (hv : BodyAt w v xs) (hu : BodyAt w u ys) :
    Calls Tryz.prog 23 #[v, u] w fun e w' => e = .returned (.bool (decide (xs = ys))) ∧ Below w.heap.size w w' := by
  obtain ⟨a, cap, rfl, hlen, hcap, hrow⟩ := hv.form
  obtain ⟨a2, cap2, rfl, hlen2, hcap2, hrow2⟩ := hu.form
  have HR := hidIt hrow
  have HR2 := hidIt hrow2
  have hl1 : xs.length ≤ 9223372036854775807 := by unfold maxLen at hcap; omega
  have hl2 : ys.length ≤ 9223372036854775807 := by unfold maxLen at hcap2; omega
  clear hrow hv hrow2 hu
  by_cases hL : xs.length = ys.length
  case neg =>
    have hne : (((xs.length : Nat) : Int) != ((ys.length : Nat) : Int)) = true := by rw [bne_iff_ne]; omega
    have HD : Hid (decide (xs = ys) = false) := decide_eq_false (fun h => hL (by rw [h]))
    clear hL
    go_enter Tryz.func23, Tryz.ntmps23
    go_wp2_with fail
    all_goals first | (go_ret; exact ⟨ret_bool HD.out.symm, Below.refl _ _⟩) | (exfalso; simp_all)
  case pos =>
  have hqq : (((xs.length : Nat) : Int) != ((ys.length : Nat) : Int)) = false := by rw [bne_eq_false_iff_eq]; omega
  have HL := hidIt hL
  clear hL
  go_enter Tryz.func23, Tryz.ntmps23
  go_wp2_with fail
  go_loopw [5] (fun i wr => ∃ k : Nat, k ≤ xs.length ∧ i = .int .i64 k ∧ Hid (Below w.heap.size w wr) ∧ Hid (∀ j (hj : j < xs.length) (hj2 : j < ys.length), j < k → xs[j] = ys[j])) (fun i _ => xs.length - (intOf i).toNat)
  case atStart => exact ⟨0, Nat.zero_le _, rfl, Below.refl _ _, fun j hj hj2 h => absurd h (by omega)⟩
  case round =>
    obtain ⟨k, hk, rfl, HB, HF⟩ := hrel
    by_cases hlt : k < xs.length
    · have hkr := hlt
      have hkr2 : k < ys.length := by rw [← HL.out]; exact hlt
      obtain ⟨b, off, rfl, hbl, c0, c1⟩ := HR.out k hkr
      obtain ⟨b2, off2, rfl, hbl2, c2, c3⟩ := HR2.out k hkr2
      have hltI : (k : Int) < (xs.length : Int) := by omega
      have hltI2 : (k : Int) < (ys.length : Int) := by omega
      have hk0 : (0 : Int) ≤ (k : Int) := by omega
      have d0 := (HB.out.cell (p := ⟨b, off + k * 2, none⟩) hbl).trans c0
      have d1 := (HB.out.cell (p := ⟨b, off + k * 2 + 1, none⟩) hbl).trans c1
      have d2 := (HB.out.cell (p := ⟨b2, off2 + k * 2, none⟩) hbl2).trans c2
      have d3 := (HB.out.cell (p := ⟨b2, off2 + k * 2 + 1, none⟩) hbl2).trans c3
      have hm1 := Nat.lt_of_lt_of_le hbl HB.out.size
      have hm2 := Nat.lt_of_lt_of_le hbl2 HB.out.size
      clear c0 c1 c2 c3 hbl hbl2
      have hgd := fun (op : BinOp) (a b' : Operand) (w : World) => gdL op a b' xs[k].neg ys[k].neg xs[k].name ys[k].name w
      by_cases he : xs[k] = ys[k]
      · have hq : ∀ w, (Op.equalIn 10000 46 (.agg #[.bool xs[k].neg, .string xs[k].name]) (.agg #[.bool ys[k].neg, .string ys[k].name])).run Tryz.prog w = .ok true w := fun w => by rw [eqFieldsL, decide_eq_true]; exact he
        have HE := hidIt he
        clear he
        go_wp2_with fail
        go_quiet (fail)
        go_wp2_with fail
        go_roundw
        case rel =>
          refine ⟨k + 1, by omega, by go_num, ⟨HB.out.os, HB.out.tape, HB.out.output, HB.out.size, HB.out.block⟩, fun j hj hj2 hjk => ?_⟩
          by_cases hjj : j < k
          · exact HF.out j hj hj2 hjj
          · obtain rfl : j = k := by omega
            exact HE.out
        case measure => simp [intOf]; omega
      · have hq : ∀ w, (Op.equalIn 10000 46 (.agg #[.bool xs[k].neg, .string xs[k].name]) (.agg #[.bool ys[k].neg, .string ys[k].name])).run Tryz.prog w = .ok false w := fun w => by rw [eqFieldsL, decide_eq_false]; exact he
        have HE := hidIt he
        clear he
        go_wp2_with fail
        go_quiet (fail)
        go_wp2_with fail
        go_ret
        exact ⟨ret_bool (decide_eq_false (fun h => HE.out (by simp only [h]))).symm, ⟨HB.out.os, HB.out.tape, HB.out.output, HB.out.size, HB.out.block⟩⟩
    · have HD : Hid (decide (xs = ys) = true) := decide_eq_true (List.ext_getElem HL.out fun j hj hj2 => HF.out j hj hj2 (by omega))
      go_wp2_with fail
      go_ret
      exact ⟨ret_bool HD.out.symm, HB.out⟩

theorem eqFieldsLd (d : Nat) (g g' : Bool) (s s' : ByteArray) (w : World) : (Op.equalIn (d + 3) 46 (.agg #[.bool g, .string s]) (.agg #[.bool g', .string s'])).run Tryz.prog w = .ok (decide ((⟨g, s⟩ : Lt) = ⟨g', s'⟩)) w := by
  have u4 := Tryz.underlying4
  have u9 := Tryz.underlying9
  have e : (decide ((⟨g, s⟩ : Lt) = ⟨g', s'⟩)) = ((g == g') && (s.toList == s'.toList)) := by
    rw [names_same, Bool.eq_iff_iff]
    simp [Lt.mk.injEq]
  rw [run_equalIn_agg w (d + 2) 46 _ _ litStruct litStood, e]
  simp only [Program.fieldsOf, Tryz.underlying46]
  go_simp
  by_cases h1 : g = g' <;> by_cases h2 : s.toList = s'.toList <;> simp [h1, h2]
theorem premStruct : Tryz.prog.underlying 74 = some (.struct (Tryz.prog.fieldsOf 74)) := by kernel_rfl
theorem premStood : Tryz.prog.stoodInHeld 74 = false := by kernel_rfl
theorem premGuard : Tryz.prog.eqGuardType Tryz.prog.depth 74 = false := by kernel_rfl
theorem promStruct : Tryz.prog.underlying 78 = some (.struct (Tryz.prog.fieldsOf 78)) := by kernel_rfl
theorem promStood : Tryz.prog.stoodInHeld 78 = false := by kernel_rfl
theorem promGuard : Tryz.prog.eqGuardType Tryz.prog.depth 78 = false := by kernel_rfl
def eqPmB (p q : Pm) : Bool := decide (p.lit = q.lit) && ((p.kind == q.kind) && ((p.rank == q.rank) && (p.src.toList == q.src.toList)))
def eqPrB (p q : Pr) : Bool := (p.rule.toList == q.rule.toList) && ((p.rank == q.rank) && decide (p.lit = q.lit))
theorem bytesEq5 {s t : ByteArray} : (s.toList == t.toList) = true ↔ s = t := by
  rw [names_same, decide_eq_true_eq]
theorem eqPmB_iff {p q : Pm} : eqPmB p q = true ↔ p = q := by
  obtain ⟨l, k, r, s⟩ := p
  obtain ⟨l', k', r', s'⟩ := q
  simp only [eqPmB, Bool.and_eq_true, decide_eq_true_eq, beq_iff_eq, Pm.mk.injEq]
  rw [show (s.toList = s'.toList) ↔ s = s' from by rw [← beq_iff_eq (a := s.toList)]; exact bytesEq5]
theorem eqPrB_iff {p q : Pr} : eqPrB p q = true ↔ p = q := by
  obtain ⟨s, r, l⟩ := p
  obtain ⟨s', r', l'⟩ := q
  simp only [eqPrB, Bool.and_eq_true, decide_eq_true_eq, beq_iff_eq, Pr.mk.injEq]
  rw [show (s.toList = s'.toList) ↔ s = s' from by rw [← beq_iff_eq (a := s.toList)]; exact bytesEq5]
theorem ltEqB (x y : Lt) : decide (x = y) = ((x.neg == y.neg) && (x.name.toList == y.name.toList)) := by
  obtain ⟨g, s⟩ := x
  obtain ⟨g', s'⟩ := y
  rw [names_same, Bool.eq_iff_iff]
  simp [Lt.mk.injEq]
theorem eqFieldsPm (p q : Pm) (w : World) : (Op.equalIn 10000 74 (.agg #[.bool p.lit.neg, .string p.lit.name, .int .i64 p.kind, .int .i64 p.rank, .string p.src]) (.agg #[.bool q.lit.neg, .string q.lit.name, .int .i64 q.kind, .int .i64 q.rank, .string q.src])).run Tryz.prog w = .ok (eqPmB p q) w := by
  have u3 := Tryz.underlying3
  have u9 := Tryz.underlying9
  have e : eqPmB p q = (((p.lit.neg == q.lit.neg) && (p.lit.name.toList == q.lit.name.toList)) && ((p.kind == q.kind) && ((p.rank == q.rank) && (p.src.toList == q.src.toList)))) := by
    unfold eqPmB
    rw [ltEqB]
  have hL := fun (w : World) => eqFieldsLd 9995 p.lit.neg q.lit.neg p.lit.name q.lit.name w
  rw [show (10000 : Nat) = 9999 + 1 from rfl, run_equalIn_agg w 9999 74 _ _ premStruct premStood, e]
  simp only [Program.fieldsOf, Tryz.underlying74]
  go_simp
  by_cases h1 : p.lit.neg = q.lit.neg <;> by_cases h2 : p.lit.name.toList = q.lit.name.toList <;> by_cases h3 : p.kind = q.kind <;> by_cases h4 : p.rank = q.rank <;> by_cases h5 : p.src.toList = q.src.toList <;> simp [h1, h2, h3, h4, h5]
theorem eqFieldsPr (p q : Pr) (w : World) : (Op.equalIn 10000 78 (.agg #[.string p.rule, .int .i64 p.rank, .bool p.lit.neg, .string p.lit.name]) (.agg #[.string q.rule, .int .i64 q.rank, .bool q.lit.neg, .string q.lit.name])).run Tryz.prog w = .ok (eqPrB p q) w := by
  have u3 := Tryz.underlying3
  have u9 := Tryz.underlying9
  have e : eqPrB p q = ((p.rule.toList == q.rule.toList) && ((p.rank == q.rank) && ((p.lit.neg == q.lit.neg) && (p.lit.name.toList == q.lit.name.toList)))) := by
    unfold eqPrB
    rw [ltEqB]
  rw [show (10000 : Nat) = 9999 + 1 from rfl, run_equalIn_agg w 9999 78 _ _ promStruct promStood, e]
  simp only [Program.fieldsOf, Tryz.underlying78]
  go_simp
  by_cases h1 : p.lit.neg = q.lit.neg <;> by_cases h2 : p.lit.name.toList = q.lit.name.toList <;> by_cases h3 : p.rule.toList = q.rule.toList <;> by_cases h4 : p.rank = q.rank <;> simp [h1, h2, h3, h4]
theorem gdPm (op : BinOp) (x y : Operand) (p q : Pm) (w : World) : (eqGuard op 74 x y (.agg #[.bool p.lit.neg, .string p.lit.name, .int .i64 p.kind, .int .i64 p.rank, .string p.src]) (.agg #[.bool q.lit.neg, .string q.lit.name, .int .i64 q.kind, .int .i64 q.rank, .string q.src])).run Tryz.prog w = .ok () w := run_eqGuard_agg w op 74 x y _ _ premGuard
theorem gdPr (op : BinOp) (x y : Operand) (p q : Pr) (w : World) : (eqGuard op 78 x y (.agg #[.string p.rule, .int .i64 p.rank, .bool p.lit.neg, .string p.lit.name]) (.agg #[.string q.rule, .int .i64 q.rank, .bool q.lit.neg, .string q.lit.name])).run Tryz.prog w = .ok () w := run_eqGuard_agg w op 78 x y _ _ promGuard

theorem ext_bs {b c : Bs} (h1 : b.prems = c.prems) (h2 : b.rules = c.rules) (h3 : b.proms = c.proms) : b = c := by
  cases b; cases c; simp_all
theorem ext_up {α : Type} {xs ys : List α} (hl : xs.length = ys.length) (h : ∀ j (hj : j < xs.length) (hj2 : j < ys.length), j < xs.length → xs[j] = ys[j]) : xs = ys := List.ext_getElem hl fun j hj hj2 => h j hj hj2 hj
theorem up_succ {α : Type} {xs ys : List α} {k : Nat} (hk : k < xs.length) (hk2 : k < ys.length) (he : xs[k] = ys[k]) (h : ∀ j (hj : j < xs.length) (hj2 : j < ys.length), j < k → xs[j] = ys[j]) : ∀ j (hj : j < xs.length) (hj2 : j < ys.length), j < k + 1 → xs[j] = ys[j] := fun j hj hj2 hjk => by
  by_cases e : j < k
  · exact h j hj hj2 e
  · obtain rfl : j = k := by omega
    exact he

/-- The ending is a Boolean that says whether P holds. -/
def Tells (e : Ending) (P : Prop) : Prop := ∃ r : Bool, e = .returned (.bool r) ∧ (r = true ↔ P)

set_option maxRecDepth 100000 in
set_option maxHeartbeats 8000000 in
theorem r5same_any (b c : Bs) (v u : Value) (w : World) (hv : BaseAt w v b) (hu : BaseAt w u c) :
    Calls Tryz.prog 18 #[v, u] w fun e w' => Tells e (b = c) ∧ Below w.heap.size w w' := by
  obtain ⟨a1, a2, a3, c1, c2, c3, rfl, hl1, hm1, hl2, hm2, hl3, hm3, hp, hr, hq⟩ := hv.form
  obtain ⟨d1, d2, d3, e1, e2, e3, rfl, hl4, hm4, hl5, hm5, hl6, hm6, hp', hr', hq'⟩ := hu.form
  have hgr := bgrow2 w (.cells #[.slice a1 b.prems.length c1, .slice a2 b.rules.length c2, .slice a3 b.proms.length c3] 32) (.cells #[.slice d1 c.prems.length e1, .slice d2 c.rules.length e2, .slice d3 c.proms.length e3] 32)
  have HP := hidIt (hp.below hgr)
  have HR := hidIt (hr.below hgr)
  have HQ := hidIt (hq.below hgr)
  have HP' := hidIt (hp'.below hgr)
  have HR' := hidIt (hr'.below hgr)
  have HQ' := hidIt (hq'.below hgr)
  have HG := hidIt hgr
  have HK := hidIt (blk_kept2 (heap_alloc_new w (.cells #[.slice a1 b.prems.length c1, .slice a2 b.rules.length c2, .slice a3 b.proms.length c3] 32)) (bgrow _ (.cells #[.slice d1 c.prems.length e1, .slice d2 c.rules.length e2, .slice d3 c.proms.length e3] 32)))
  have HL := hidIt (heap_alloc_new (w.alloc (.cells #[.slice a1 b.prems.length c1, .slice a2 b.rules.length c2, .slice a3 b.proms.length c3] 32)) (.cells #[.slice d1 c.prems.length e1, .slice d2 c.rules.length e2, .slice d3 c.proms.length e3] 32))
  rw [size_alloc] at HL
  have hn1 : b.prems.length ≤ 9223372036854775807 := by unfold maxLen at hm1; omega
  have hn2 : b.rules.length ≤ 9223372036854775807 := by unfold maxLen at hm2; omega
  have hn3 : b.proms.length ≤ 9223372036854775807 := by unfold maxLen at hm3; omega
  clear hv hu hp hr hq hp' hr' hq' hgr hl1 hl2 hl3 hl4 hl5 hl6 hm1 hm2 hm3 hm4 hm5 hm6
  by_cases hne : ¬ (b.prems.length = c.prems.length ∧ b.rules.length = c.rules.length ∧ b.proms.length = c.proms.length)
  · have HNE : Hid (b = c → False) := fun e => hne (by rw [e]; exact ⟨rfl, rfl, rfl⟩)
    obtain ⟨k0, k1, k2⟩ := bcell3 HK.out
    obtain ⟨l0, l1, l2⟩ := bcell3 HL.out
    have lk := lt_of_block HK.out
    have ll := lt_of_block HL.out
    clear HP HR HQ HP' HR' HQ' HK HL
    by_cases g1 : b.prems.length = c.prems.length
    · have q1 : (((b.prems.length : Nat) : Int) != ((c.prems.length : Nat) : Int)) = false := by rw [bne_eq_false_iff_eq]; omega
      by_cases g2 : b.rules.length = c.rules.length
      · have q2 : (((b.rules.length : Nat) : Int) != ((c.rules.length : Nat) : Int)) = false := by rw [bne_eq_false_iff_eq]; omega
        have g3 : ¬ b.proms.length = c.proms.length := fun e => hne ⟨g1, g2, e⟩
        have q3 : (((b.proms.length : Nat) : Int) != ((c.proms.length : Nat) : Int)) = true := by rw [bne_iff_ne]; omega
        clear g1 g2 g3 hne
        go_enter Tryz.func18, Tryz.ntmps18
        go_wp2_with fail
        go_ret
        exact ⟨⟨false, rfl, ⟨fun h => (by cases h), fun h => (HNE.out h).elim⟩⟩, HG.out⟩
      · have q2 : (((b.rules.length : Nat) : Int) != ((c.rules.length : Nat) : Int)) = true := by rw [bne_iff_ne]; omega
        clear g1 g2 hne
        go_enter Tryz.func18, Tryz.ntmps18
        go_wp2_with fail
        go_ret
        exact ⟨⟨false, rfl, ⟨fun h => (by cases h), fun h => (HNE.out h).elim⟩⟩, HG.out⟩
    · have q1 : (((b.prems.length : Nat) : Int) != ((c.prems.length : Nat) : Int)) = true := by rw [bne_iff_ne]; omega
      clear g1 hne
      go_enter Tryz.func18, Tryz.ntmps18
      go_wp2_with fail
      go_ret
      exact ⟨⟨false, rfl, ⟨fun h => (by cases h), fun h => (HNE.out h).elim⟩⟩, HG.out⟩
  · have hne' := Classical.not_not.1 hne
    obtain ⟨g1, g2, g3⟩ := hne'
    have q1 : (((b.prems.length : Nat) : Int) != ((c.prems.length : Nat) : Int)) = false := by rw [bne_eq_false_iff_eq]; omega
    have q2 : (((b.rules.length : Nat) : Int) != ((c.rules.length : Nat) : Int)) = false := by rw [bne_eq_false_iff_eq]; omega
    have q3 : (((b.proms.length : Nat) : Int) != ((c.proms.length : Nat) : Int)) = false := by rw [bne_eq_false_iff_eq]; omega
    have HG1 := hidIt g1
    have HG2 := hidIt g2
    have HG3 := hidIt g3
    obtain ⟨k0, k1, k2⟩ := bcell3 HK.out
    obtain ⟨l0, l1, l2⟩ := bcell3 HL.out
    have lk := lt_of_block HK.out
    have ll := lt_of_block HL.out
    clear g1 g2 g3 hne
    go_enter Tryz.func18, Tryz.ntmps18
    go_wp2_with fail
    clear k0 k1 k2 l0 l1 l2 lk ll q1 q2 q3
    generalize ((w.alloc (.cells #[.slice a1 b.prems.length c1, .slice a2 b.rules.length c2, .slice a3 b.proms.length c3] 32)).alloc (.cells #[.slice d1 c.prems.length e1, .slice d2 c.rules.length e2, .slice d3 c.proms.length e3] 32)) = w1 at *
    go_loopw [5] (fun i wr => ∃ k : Nat, k ≤ b.prems.length ∧ i = .int .i64 k ∧ Hid (Below w1.heap.size w1 wr) ∧ Hid (∀ j (hj : j < b.prems.length) (hj2 : j < c.prems.length), j < k → b.prems[j] = c.prems[j])) (fun i _ => b.prems.length - (intOf i).toNat)
    case atStart => exact ⟨0, Nat.zero_le _, rfl, Below.refl _ _, fun j hj hj2 h => absurd h (by omega)⟩
    case round =>
      obtain ⟨k, hk, rfl, HBr, HF⟩ := hrel
      have HBw := hidIt (HG.out.trans (HBr.out.mono HG.out.size))
      have hK := blk_kept2 HK.out HBr.out
      have hL := blk_kept2 HL.out HBr.out
      obtain ⟨k0, k1, k2⟩ := bcell3 hK
      obtain ⟨l0, l1, l2⟩ := bcell3 hL
      have lk := lt_of_block hK
      have ll := lt_of_block hL
      clear hK hL
      by_cases hlt : k < b.prems.length
      · have hlt' : k < c.prems.length := by rw [← HG1.out]; exact hlt
        have hltI : (k : Int) < (b.prems.length : Int) := by omega
        have hltI' : (k : Int) < (c.prems.length : Int) := by omega
        have hk0 : (0 : Int) ≤ (k : Int) := by omega
        obtain ⟨aa, ca, ea, -, -, hrow⟩ := RowIn.form HP.out
        injection ea with ea eb ec
        subst ea ec
        obtain ⟨bb, off, rfl, hbl, c0', c1', c2', c3', c4'⟩ := hrow k hlt
        obtain ⟨ab, cb, ea, -, -, hrow'⟩ := RowIn.form HP'.out
        injection ea with ea eb ec
        subst ea ec
        obtain ⟨bb2, off2, rfl, hbl2, p0', p1', p2', p3', p4'⟩ := hrow' k hlt'
        have x0 := (HBr.out.cell (p := ⟨bb, off + k * 5, none⟩) hbl).trans c0'
        have x1 := (HBr.out.cell (p := ⟨bb, off + k * 5 + 1, none⟩) hbl).trans c1'
        have x2 := (HBr.out.cell (p := ⟨bb, off + k * 5 + 2, none⟩) hbl).trans c2'
        have x3 := (HBr.out.cell (p := ⟨bb, off + k * 5 + 3, none⟩) hbl).trans c3'
        have x4 := (HBr.out.cell (p := ⟨bb, off + k * 5 + 4, none⟩) hbl).trans c4'
        have y0 := (HBr.out.cell (p := ⟨bb2, off2 + k * 5, none⟩) hbl2).trans p0'
        have y1 := (HBr.out.cell (p := ⟨bb2, off2 + k * 5 + 1, none⟩) hbl2).trans p1'
        have y2 := (HBr.out.cell (p := ⟨bb2, off2 + k * 5 + 2, none⟩) hbl2).trans p2'
        have y3 := (HBr.out.cell (p := ⟨bb2, off2 + k * 5 + 3, none⟩) hbl2).trans p3'
        have y4 := (HBr.out.cell (p := ⟨bb2, off2 + k * 5 + 4, none⟩) hbl2).trans p4'
        have hx := Nat.lt_of_lt_of_le hbl HBr.out.size
        have hy := Nat.lt_of_lt_of_le hbl2 HBr.out.size
        clear hrow hrow' c0' c1' c2' c3' c4' p0' p1' p2' p3' p4' hbl hbl2
        have hgd := fun (op : BinOp) (a b' : Operand) (w : World) => gdPm op a b' b.prems[k] c.prems[k] w
        have hq := fun (w : World) => eqFieldsPm b.prems[k] c.prems[k] w
        by_cases he : b.prems[k] = c.prems[k]
        · rw [eqPmB_iff.2 he] at hq
          have HE := hidIt he
          clear he
          go_wp2_with fail
          go_quiet (fail)
          go_wp2_with fail
          go_roundw
          case rel => exact ⟨k + 1, by omega, by go_num, ⟨HBr.out.os, HBr.out.tape, HBr.out.output, HBr.out.size, HBr.out.block⟩, up_succ hlt hlt' HE.out HF.out⟩
          case measure => simp [intOf]; omega
        · rw [show eqPmB b.prems[k] c.prems[k] = false from Bool.eq_false_iff.2 fun h => he (eqPmB_iff.1 h)] at hq
          have HE : Hid (b = c → False) := fun e => he (by simp only [e])
          clear he
          go_wp2_with fail
          go_quiet (fail)
          go_wp2_with fail
          go_ret
          exact ⟨⟨false, rfl, ⟨fun h => (by cases h), fun h => (HE.out h).elim⟩⟩, ⟨HBw.out.os, HBw.out.tape, HBw.out.output, HBw.out.size, HBw.out.block⟩⟩
      · have HPE : Hid (b.prems = c.prems) := ext_up HG1.out fun j h1 h2 h3 => HF.out j h1 h2 (by omega)
        have hltI : ¬ (k : Int) < (b.prems.length : Int) := by omega
        clear HF hlt
        go_wp2_with fail
        clear k0 k1 k2 l0 l1 l2 lk ll hltI
        go_loopw [6] (fun i wx => ∃ k : Nat, k ≤ b.rules.length ∧ i = .int .i64 k ∧ Hid (Below w1.heap.size w1 wx) ∧ Hid (∀ j (hj : j < b.rules.length) (hj2 : j < c.rules.length), j < k → b.rules[j] = c.rules[j])) (fun i _ => b.rules.length - (intOf i).toNat)
        case atStart => exact ⟨0, Nat.zero_le _, rfl, HBr.out, fun j hj hj2 h => absurd h (by omega)⟩
        case round =>
          clear HBr HBw
          obtain ⟨k, hk, rfl, HBr, HF⟩ := hrel
          have HBw := hidIt (HG.out.trans (HBr.out.mono HG.out.size))
          have hK := blk_kept2 HK.out HBr.out
          have hL := blk_kept2 HL.out HBr.out
          obtain ⟨k0, k1, k2⟩ := bcell3 hK
          obtain ⟨l0, l1, l2⟩ := bcell3 hL
          have lk := lt_of_block hK
          have ll := lt_of_block hL
          clear hK hL
          by_cases hlt : k < b.rules.length
          · have hlt' : k < c.rules.length := by rw [← HG2.out]; exact hlt
            have hltI : (k : Int) < (b.rules.length : Int) := by omega
            have hltI' : (k : Int) < (c.rules.length : Int) := by omega
            have hk0 : (0 : Int) ≤ (k : Int) := by omega
            obtain ⟨aa, ca, ea, -, -, hrow⟩ := RowIn.form HR.out
            injection ea with ea eb ec
            subst ea ec
            obtain ⟨bb, off, rfl, hbl, bv, c0', c1', c2', c3', c4', c5', hbd⟩ := hrow k hlt
            obtain ⟨ab, cb, ea, -, -, hrow'⟩ := RowIn.form HR'.out
            injection ea with ea eb ec
            subst ea ec
            obtain ⟨bb2, off2, rfl, hbl2, bv2, p0', p1', p2', p3', p4', p5', hbd2⟩ := hrow' k hlt'
            obtain ⟨av, cv, rfl, -, -, -⟩ := hbd.form
            obtain ⟨av2, cv2, rfl, -, -, -⟩ := hbd2.form
            have x0 := (HBr.out.cell (p := ⟨bb, off + k * 6, none⟩) hbl).trans c0'
            have x1 := (HBr.out.cell (p := ⟨bb, off + k * 6 + 1, none⟩) hbl).trans c1'
            have x2 := (HBr.out.cell (p := ⟨bb, off + k * 6 + 2, none⟩) hbl).trans c2'
            have x3 := (HBr.out.cell (p := ⟨bb, off + k * 6 + 3, none⟩) hbl).trans c3'
            have x4 := (HBr.out.cell (p := ⟨bb, off + k * 6 + 4, none⟩) hbl).trans c4'
            have x5 := (HBr.out.cell (p := ⟨bb, off + k * 6 + 5, none⟩) hbl).trans c5'
            have y0 := (HBr.out.cell (p := ⟨bb2, off2 + k * 6, none⟩) hbl2).trans p0'
            have y1 := (HBr.out.cell (p := ⟨bb2, off2 + k * 6 + 1, none⟩) hbl2).trans p1'
            have y2 := (HBr.out.cell (p := ⟨bb2, off2 + k * 6 + 2, none⟩) hbl2).trans p2'
            have y3 := (HBr.out.cell (p := ⟨bb2, off2 + k * 6 + 3, none⟩) hbl2).trans p3'
            have y4 := (HBr.out.cell (p := ⟨bb2, off2 + k * 6 + 4, none⟩) hbl2).trans p4'
            have y5 := (HBr.out.cell (p := ⟨bb2, off2 + k * 6 + 5, none⟩) hbl2).trans p5'
            have hx := Nat.lt_of_lt_of_le hbl HBr.out.size
            have hy := Nat.lt_of_lt_of_le hbl2 HBr.out.size
            have HBD1 := hidIt hbd
            have HBD2 := hidIt hbd2
            clear hrow hrow' c0' c1' c2' c3' c4' c5' p0' p1' p2' p3' p4' p5' hbl hbl2 hbd hbd2
            have HNE : Hid (¬ b.rules[k] = c.rules[k] → b = c → False) := fun h e => h (by simp only [e])
            obtain ⟨X, hXE⟩ : ∃ x, b.rules[k] = x := ⟨_, rfl⟩
            obtain ⟨Y, hYE⟩ : ∃ x, c.rules[k] = x := ⟨_, rfl⟩
            simp only [hXE] at x0 x1 x2 x3 x4 x5 HBD1 HNE
            simp only [hYE] at y0 y1 y2 y3 y4 y5 HBD2 HNE
            obtain ⟨xn, xt, xr, xb, xhg, xhn⟩ := X
            obtain ⟨yn, yt, yr, yb, yhg, yhn⟩ := Y
            have HXE := hidIt hXE
            have HYE := hidIt hYE
            clear hXE hYE
            simp only at x0 x1 x2 x3 x4 x5 y0 y1 y2 y3 y4 y5
            go_wp2_with fail
            go_big_region
            · have hX : (((wr.alloc (.cells #[.string xn, .bool xt, .int .i64 xr, .slice av xb.length cv, .bool xhg, .string xhn] 64)).alloc (.cells #[.string yn, .bool yt, .int .i64 yr, .slice av2 yb.length cv2, .bool yhg, .string yhn] 64)).drew).heap[wr.heap.size]? = some (.cells #[.string xn, .bool xt, .int .i64 xr, .slice av xb.length cv, .bool xhg, .string xhn] 64 (0, 0)) := by have h := blk_kept2 (heap_alloc_new wr (.cells #[.string xn, .bool xt, .int .i64 xr, .slice av xb.length cv, .bool xhg, .string xhn] 64)) (bgrow (wr.alloc (.cells #[.string xn, .bool xt, .int .i64 xr, .slice av xb.length cv, .bool xhg, .string xhn] 64)) (.cells #[.string yn, .bool yt, .int .i64 yr, .slice av2 yb.length cv2, .bool yhg, .string yhn] 64)); exact h
              have hY : (((wr.alloc (.cells #[.string xn, .bool xt, .int .i64 xr, .slice av xb.length cv, .bool xhg, .string xhn] 64)).alloc (.cells #[.string yn, .bool yt, .int .i64 yr, .slice av2 yb.length cv2, .bool yhg, .string yhn] 64)).drew).heap[wr.heap.size + 1]? = some (.cells #[.string yn, .bool yt, .int .i64 yr, .slice av2 yb.length cv2, .bool yhg, .string yhn] 64 (0, 0)) := by have h := heap_alloc_new (wr.alloc (.cells #[.string xn, .bool xt, .int .i64 xr, .slice av xb.length cv, .bool xhg, .string xhn] 64)) (.cells #[.string yn, .bool yt, .int .i64 yr, .slice av2 yb.length cv2, .bool yhg, .string yhn] 64); rw [size_alloc] at h; exact h
              have HB1 : Hid (Below w1.heap.size w1 (((wr.alloc (.cells #[.string xn, .bool xt, .int .i64 xr, .slice av xb.length cv, .bool xhg, .string xhn] 64)).alloc (.cells #[.string yn, .bool yt, .int .i64 yr, .slice av2 yb.length cv2, .bool yhg, .string yhn] 64)).drew)) := (HBr.out.trans (Below.mono (bgrow2 wr _ _) HBr.out.size)).drew
              generalize (((wr.alloc (.cells #[.string xn, .bool xt, .int .i64 xr, .slice av xb.length cv, .bool xhg, .string xhn] 64)).alloc (.cells #[.string yn, .bool yt, .int .i64 yr, .slice av2 yb.length cv2, .bool yhg, .string yhn] 64)).drew) = w2 at *
              obtain ⟨z0, z1, z2, z3, z4, z5⟩ := bcell6 hX
              obtain ⟨u0, u1, u2, u3, u4, u5⟩ := bcell6 hY
              have lz := lt_of_block hX
              have lu := lt_of_block hY
              clear hX hY
              have HB2 : Hid (Below w.heap.size w w2) := HG.out.trans (HB1.out.mono HG.out.size)
              have HBX := hidIt (HBD1.out.below HB1.out)
              have HBY := hidIt (HBD2.out.below HB1.out)
              generalize wr.heap.size = p0 at *
              have gdh := fun (op : BinOp) (a b' : Operand) (w : World) => gdL op a b' xhg yhg xhn yhn w
              have hqh := fun (w : World) => eqFieldsL xhg yhg xhn yhn w
              by_cases en : xn = yn
              · have f1 : (xn.toList == yn.toList) = true := by rw [en]; exact beq_self_eq_true _
                by_cases et : xt = yt
                · subst et
                  by_cases er : xr = yr
                  · subst er
                    by_cases eh : (⟨xhg, xhn⟩ : Lt) = ⟨yhg, yhn⟩
                    · rw [decide_eq_true eh] at hqh
                      have HEQ : Hid (xb = yb → (⟨xn, xt, xr, xb, ⟨xhg, xhn⟩⟩ : Ru) = ⟨yn, xt, xr, yb, ⟨yhg, yhn⟩⟩) := fun e => by rw [en, e, eh]
                      have HNQ : Hid (¬ xb = yb → b = c → False) := fun e h => HNE.out (fun e' => by injection e' with e1 e2 e3 e4 e5; exact e e4) h
                      clear en eh
                      go_wp2_with fail
                      refine (r1same_any xb yb _ _ _ HBX.out HBY.out).mono ?_
                      rintro e w5 ⟨rfl, hb5⟩
                      have HB5 := hidIt (HB1.out.trans (Below.mono hb5 HB1.out.size))
                      have HB6 := hidIt (HB2.out.trans (Below.mono hb5 HB2.out.size))
                      clear hb5
                      by_cases eb : xb = yb
                      · rw [decide_eq_true eb]
                        have HE := hidIt (HEQ.out eb)
                        clear eb
                        go_wp2_with fail
                        go_roundw
                        case rel => exact ⟨k + 1, by omega, by go_num, HB5.out, up_succ hlt hlt' (HXE.out.trans (HE.out.trans HYE.out.symm)) HF.out⟩
                        case measure => simp [intOf]; omega
                      · rw [decide_eq_false eb]
                        have HE := hidIt (HNQ.out eb)
                        clear eb
                        go_wp2_with fail
                        go_ret
                        exact ⟨⟨false, rfl, ⟨fun h => (by cases h), fun h => (HE.out h).elim⟩⟩, HB6.out⟩
                    · rw [decide_eq_false eh] at hqh
                      have HNF : Hid (b = c → False) := fun h => HNE.out (fun e => by injection e with e1 e2 e3 e4 e5; exact eh e5) h
                      clear eh
                      go_wp2_with fail
                      go_ret
                      exact ⟨⟨false, rfl, ⟨fun h => (by cases h), fun h => (HNF.out h).elim⟩⟩, HB2.out⟩
                  · have f3 : (xr == yr) = false := beq_eq_false_iff_ne.2 er
                    have HNF : Hid (b = c → False) := fun h => HNE.out (fun e => by injection e with e1 e2 e3 e4 e5; exact er e3) h
                    go_wp2_with fail
                    go_ret
                    exact ⟨⟨false, rfl, ⟨fun h => (by cases h), fun h => (HNF.out h).elim⟩⟩, HB2.out⟩
                · have f2 : (xt == yt) = false := beq_eq_false_iff_ne.2 et
                  have HNF : Hid (b = c → False) := fun h => HNE.out (fun e => by injection e with e1 e2 e3 e4 e5; exact et e2) h
                  go_wp2_with fail
                  go_ret
                  exact ⟨⟨false, rfl, ⟨fun h => (by cases h), fun h => (HNF.out h).elim⟩⟩, HB2.out⟩
              · have f1 : (xn.toList == yn.toList) = false := Bool.eq_false_iff.2 fun h => en (bytesEq5.1 h)
                have HNF : Hid (b = c → False) := fun h => HNE.out (fun e => by injection e with e1 e2 e3 e4 e5; exact en e1) h
                clear en
                go_wp2_with fail
                go_ret
                exact ⟨⟨false, rfl, ⟨fun h => (by cases h), fun h => (HNF.out h).elim⟩⟩, HB2.out⟩
            · have hX : (((wr.alloc (.cells #[.string yn, .bool yt, .int .i64 yr, .slice av2 yb.length cv2, .bool yhg, .string yhn] 64)).alloc (.cells #[.string xn, .bool xt, .int .i64 xr, .slice av xb.length cv, .bool xhg, .string xhn] 64)).drew).heap[wr.heap.size + 1]? = some (.cells #[.string xn, .bool xt, .int .i64 xr, .slice av xb.length cv, .bool xhg, .string xhn] 64 (0, 0)) := by have h := heap_alloc_new (wr.alloc (.cells #[.string yn, .bool yt, .int .i64 yr, .slice av2 yb.length cv2, .bool yhg, .string yhn] 64)) (.cells #[.string xn, .bool xt, .int .i64 xr, .slice av xb.length cv, .bool xhg, .string xhn] 64); rw [size_alloc] at h; exact h
              have hY : (((wr.alloc (.cells #[.string yn, .bool yt, .int .i64 yr, .slice av2 yb.length cv2, .bool yhg, .string yhn] 64)).alloc (.cells #[.string xn, .bool xt, .int .i64 xr, .slice av xb.length cv, .bool xhg, .string xhn] 64)).drew).heap[wr.heap.size]? = some (.cells #[.string yn, .bool yt, .int .i64 yr, .slice av2 yb.length cv2, .bool yhg, .string yhn] 64 (0, 0)) := by have h := blk_kept2 (heap_alloc_new wr (.cells #[.string yn, .bool yt, .int .i64 yr, .slice av2 yb.length cv2, .bool yhg, .string yhn] 64)) (bgrow (wr.alloc (.cells #[.string yn, .bool yt, .int .i64 yr, .slice av2 yb.length cv2, .bool yhg, .string yhn] 64)) (.cells #[.string xn, .bool xt, .int .i64 xr, .slice av xb.length cv, .bool xhg, .string xhn] 64)); exact h
              have HB1 : Hid (Below w1.heap.size w1 (((wr.alloc (.cells #[.string yn, .bool yt, .int .i64 yr, .slice av2 yb.length cv2, .bool yhg, .string yhn] 64)).alloc (.cells #[.string xn, .bool xt, .int .i64 xr, .slice av xb.length cv, .bool xhg, .string xhn] 64)).drew)) := (HBr.out.trans (Below.mono (bgrow2 wr _ _) HBr.out.size)).drew
              generalize (((wr.alloc (.cells #[.string yn, .bool yt, .int .i64 yr, .slice av2 yb.length cv2, .bool yhg, .string yhn] 64)).alloc (.cells #[.string xn, .bool xt, .int .i64 xr, .slice av xb.length cv, .bool xhg, .string xhn] 64)).drew) = w2 at *
              obtain ⟨z0, z1, z2, z3, z4, z5⟩ := bcell6 hX
              obtain ⟨u0, u1, u2, u3, u4, u5⟩ := bcell6 hY
              have lz := lt_of_block hX
              have lu := lt_of_block hY
              clear hX hY
              have HB2 : Hid (Below w.heap.size w w2) := HG.out.trans (HB1.out.mono HG.out.size)
              have HBX := hidIt (HBD1.out.below HB1.out)
              have HBY := hidIt (HBD2.out.below HB1.out)
              generalize wr.heap.size = p0 at *
              have gdh := fun (op : BinOp) (a b' : Operand) (w : World) => gdL op a b' xhg yhg xhn yhn w
              have hqh := fun (w : World) => eqFieldsL xhg yhg xhn yhn w
              by_cases en : xn = yn
              · have f1 : (xn.toList == yn.toList) = true := by rw [en]; exact beq_self_eq_true _
                by_cases et : xt = yt
                · subst et
                  by_cases er : xr = yr
                  · subst er
                    by_cases eh : (⟨xhg, xhn⟩ : Lt) = ⟨yhg, yhn⟩
                    · rw [decide_eq_true eh] at hqh
                      have HEQ : Hid (xb = yb → (⟨xn, xt, xr, xb, ⟨xhg, xhn⟩⟩ : Ru) = ⟨yn, xt, xr, yb, ⟨yhg, yhn⟩⟩) := fun e => by rw [en, e, eh]
                      have HNQ : Hid (¬ xb = yb → b = c → False) := fun e h => HNE.out (fun e' => by injection e' with e1 e2 e3 e4 e5; exact e e4) h
                      clear en eh
                      go_wp2_with fail
                      refine (r1same_any xb yb _ _ _ HBX.out HBY.out).mono ?_
                      rintro e w5 ⟨rfl, hb5⟩
                      have HB5 := hidIt (HB1.out.trans (Below.mono hb5 HB1.out.size))
                      have HB6 := hidIt (HB2.out.trans (Below.mono hb5 HB2.out.size))
                      clear hb5
                      by_cases eb : xb = yb
                      · rw [decide_eq_true eb]
                        have HE := hidIt (HEQ.out eb)
                        clear eb
                        go_wp2_with fail
                        go_roundw
                        case rel => exact ⟨k + 1, by omega, by go_num, HB5.out, up_succ hlt hlt' (HXE.out.trans (HE.out.trans HYE.out.symm)) HF.out⟩
                        case measure => simp [intOf]; omega
                      · rw [decide_eq_false eb]
                        have HE := hidIt (HNQ.out eb)
                        clear eb
                        go_wp2_with fail
                        go_ret
                        exact ⟨⟨false, rfl, ⟨fun h => (by cases h), fun h => (HE.out h).elim⟩⟩, HB6.out⟩
                    · rw [decide_eq_false eh] at hqh
                      have HNF : Hid (b = c → False) := fun h => HNE.out (fun e => by injection e with e1 e2 e3 e4 e5; exact eh e5) h
                      clear eh
                      go_wp2_with fail
                      go_ret
                      exact ⟨⟨false, rfl, ⟨fun h => (by cases h), fun h => (HNF.out h).elim⟩⟩, HB2.out⟩
                  · have f3 : (xr == yr) = false := beq_eq_false_iff_ne.2 er
                    have HNF : Hid (b = c → False) := fun h => HNE.out (fun e => by injection e with e1 e2 e3 e4 e5; exact er e3) h
                    go_wp2_with fail
                    go_ret
                    exact ⟨⟨false, rfl, ⟨fun h => (by cases h), fun h => (HNF.out h).elim⟩⟩, HB2.out⟩
                · have f2 : (xt == yt) = false := beq_eq_false_iff_ne.2 et
                  have HNF : Hid (b = c → False) := fun h => HNE.out (fun e => by injection e with e1 e2 e3 e4 e5; exact et e2) h
                  go_wp2_with fail
                  go_ret
                  exact ⟨⟨false, rfl, ⟨fun h => (by cases h), fun h => (HNF.out h).elim⟩⟩, HB2.out⟩
              · have f1 : (xn.toList == yn.toList) = false := Bool.eq_false_iff.2 fun h => en (bytesEq5.1 h)
                have HNF : Hid (b = c → False) := fun h => HNE.out (fun e => by injection e with e1 e2 e3 e4 e5; exact en e1) h
                clear en
                go_wp2_with fail
                go_ret
                exact ⟨⟨false, rfl, ⟨fun h => (by cases h), fun h => (HNF.out h).elim⟩⟩, HB2.out⟩
          · have HRE : Hid (b.rules = c.rules) := ext_up HG2.out fun j h1 h2 h3 => HF.out j h1 h2 (by omega)
            have hltI : ¬ (k : Int) < (b.rules.length : Int) := by omega
            clear HF hlt
            go_wp2_with fail
            clear k0 k1 k2 l0 l1 l2 lk ll hltI
            go_loopw [9] (fun i wx => ∃ k : Nat, k ≤ b.proms.length ∧ i = .int .i64 k ∧ Hid (Below w1.heap.size w1 wx) ∧ Hid (∀ j (hj : j < b.proms.length) (hj2 : j < c.proms.length), j < k → b.proms[j] = c.proms[j])) (fun i _ => b.proms.length - (intOf i).toNat)
            case atStart => exact ⟨0, Nat.zero_le _, rfl, HBr.out, fun j hj hj2 h => absurd h (by omega)⟩
            case round =>
              clear HBr HBw
              obtain ⟨k, hk, rfl, HBr, HF⟩ := hrel
              have HBw := hidIt (HG.out.trans (HBr.out.mono HG.out.size))
              have hK := blk_kept2 HK.out HBr.out
              have hL := blk_kept2 HL.out HBr.out
              obtain ⟨k0, k1, k2⟩ := bcell3 hK
              obtain ⟨l0, l1, l2⟩ := bcell3 hL
              have lk := lt_of_block hK
              have ll := lt_of_block hL
              clear hK hL
              by_cases hlt : k < b.proms.length
              · have hlt' : k < c.proms.length := by rw [← HG3.out]; exact hlt
                have hltI : (k : Int) < (b.proms.length : Int) := by omega
                have hltI' : (k : Int) < (c.proms.length : Int) := by omega
                have hk0 : (0 : Int) ≤ (k : Int) := by omega
                obtain ⟨aa, ca, ea, -, -, hrow⟩ := RowIn.form HQ.out
                injection ea with ea eb ec
                subst ea ec
                obtain ⟨bb, off, rfl, hbl, c0', c1', c2', c3'⟩ := hrow k hlt
                obtain ⟨ab, cb, ea, -, -, hrow'⟩ := RowIn.form HQ'.out
                injection ea with ea eb ec
                subst ea ec
                obtain ⟨bb2, off2, rfl, hbl2, p0', p1', p2', p3'⟩ := hrow' k hlt'
                have x0 := (HBr.out.cell (p := ⟨bb, off + k * 4, none⟩) hbl).trans c0'
                have x1 := (HBr.out.cell (p := ⟨bb, off + k * 4 + 1, none⟩) hbl).trans c1'
                have x2 := (HBr.out.cell (p := ⟨bb, off + k * 4 + 2, none⟩) hbl).trans c2'
                have x3 := (HBr.out.cell (p := ⟨bb, off + k * 4 + 3, none⟩) hbl).trans c3'
                have y0 := (HBr.out.cell (p := ⟨bb2, off2 + k * 4, none⟩) hbl2).trans p0'
                have y1 := (HBr.out.cell (p := ⟨bb2, off2 + k * 4 + 1, none⟩) hbl2).trans p1'
                have y2 := (HBr.out.cell (p := ⟨bb2, off2 + k * 4 + 2, none⟩) hbl2).trans p2'
                have y3 := (HBr.out.cell (p := ⟨bb2, off2 + k * 4 + 3, none⟩) hbl2).trans p3'
                have hx := Nat.lt_of_lt_of_le hbl HBr.out.size
                have hy := Nat.lt_of_lt_of_le hbl2 HBr.out.size
                clear hrow hrow' c0' c1' c2' c3' p0' p1' p2' p3' hbl hbl2
                have hgd := fun (op : BinOp) (a b' : Operand) (w : World) => gdPr op a b' b.proms[k] c.proms[k] w
                have hq := fun (w : World) => eqFieldsPr b.proms[k] c.proms[k] w
                by_cases he : b.proms[k] = c.proms[k]
                · rw [eqPrB_iff.2 he] at hq
                  have HE := hidIt he
                  clear he
                  go_wp2_with fail
                  go_quiet (fail)
                  go_wp2_with fail
                  go_roundw
                  case rel => exact ⟨k + 1, by omega, by go_num, ⟨HBr.out.os, HBr.out.tape, HBr.out.output, HBr.out.size, HBr.out.block⟩, up_succ hlt hlt' HE.out HF.out⟩
                  case measure => simp [intOf]; omega
                · rw [show eqPrB b.proms[k] c.proms[k] = false from Bool.eq_false_iff.2 fun h => he (eqPrB_iff.1 h)] at hq
                  have HE : Hid (b = c → False) := fun e => he (by simp only [e])
                  clear he
                  go_wp2_with fail
                  go_quiet (fail)
                  go_wp2_with fail
                  go_ret
                  exact ⟨⟨false, rfl, ⟨fun h => (by cases h), fun h => (HE.out h).elim⟩⟩, ⟨HBw.out.os, HBw.out.tape, HBw.out.output, HBw.out.size, HBw.out.block⟩⟩
              · have HQE : Hid (b.proms = c.proms) := ext_up HG3.out fun j h1 h2 h3 => HF.out j h1 h2 (by omega)
                have hltI : ¬ (k : Int) < (b.proms.length : Int) := by omega
                clear HF hlt
                go_wp2_with fail
                go_ret
                exact ⟨⟨true, rfl, ⟨fun _ => ext_bs HPE.out HRE.out HQE.out, fun _ => rfl⟩⟩, HBw.out⟩
end Go.Proofs.YtfcoplplkbeljaaGreatDoor
