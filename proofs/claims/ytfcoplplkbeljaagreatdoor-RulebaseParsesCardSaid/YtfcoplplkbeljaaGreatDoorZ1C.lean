/- The reference's Premise, for every rule base. What Validate says of a premise, a promotion. What Validate says of a promotion. The body of a rule: is a literal of it not valid, is it equal to another list. -/
import Derived.Test.YtfcoplplkbeljaaGreatDoorZ1B
import Derived.Test.YtfcoplplkbeljaaGreatDoorZ1A
import Derived.Deep.QuietTactic
import Derived.BigQuiet

namespace Go.Proofs.YtfcoplplkbeljaaGreatDoor
set_option linter.unusedVariables false
set_option linter.unusedSimpArgs false
open Go Go.RowKit

theorem hasLit_eq (x : Lt) (p : Pm) : hasLit x p = decide (p.lit = x) := by
  obtain ⟨⟨g, s⟩, _, _, _⟩ := p
  obtain ⟨g', s'⟩ := x
  unfold hasLit
  rw [Bool.eq_iff_iff]
  have := names_same s s'
  simp only [Bool.and_eq_true, beq_iff_eq, decide_eq_true_eq, Lt.mk.injEq]
  have h2 : (s.toList = s'.toList) ↔ s = s' := ⟨fun h => ByteArray.ext (Array.toList_inj.1 (by rw [← Lib.toList_data, ← Lib.toList_data]; exact h)), fun h => by rw [h]⟩
  rw [h2]

theorem r5premise_any (b : Bs) (v : Value) (x : Lt) (w : World) (hv : BaseAt w v b) :
    Calls Tryz.prog 83 #[v, .agg #[.bool x.neg, .string x.name]] w fun e w' => e = .returned (.int .i64 (posI (hasLit x) b.prems)) ∧ Below w.heap.size w w' := by
  obtain ⟨a1, a2, a3, c1, c2, c3, rfl, hlen, hcap, -, -, -, -, hr, -, -⟩ := hv.form
  have hgr := bgrow2 w (.cells #[.slice a1 b.prems.length c1, .slice a2 b.rules.length c2, .slice a3 b.proms.length c3] 32) (.cells #[.bool x.neg, .string x.name] 46)
  have HR := hidIt (hr.below hgr)
  have HG := hidIt hgr
  have HK := hidIt (blk_kept2 (heap_alloc_new w (.cells #[.slice a1 b.prems.length c1, .slice a2 b.rules.length c2, .slice a3 b.proms.length c3] 32)) (bgrow _ (.cells #[.bool x.neg, .string x.name] 46)))
  have HX0 := hidIt (cell_new0 (w.alloc (.cells #[.slice a1 b.prems.length c1, .slice a2 b.rules.length c2, .slice a3 b.proms.length c3] 32)) (.bool x.neg) [.string x.name] 46)
  have HX1 := hidIt (cell_new1 (w.alloc (.cells #[.slice a1 b.prems.length c1, .slice a2 b.rules.length c2, .slice a3 b.proms.length c3] 32)) (.bool x.neg) (.string x.name) [] 46)
  rw [size_alloc] at HX0 HX1
  have hl1 : b.prems.length ≤ 9223372036854775807 := by unfold maxLen at hcap; omega
  clear hv hr hgr
  go_enter Tryz.func83, Tryz.ntmps83
  go_wp2_with fail
  have hpb := lt_of_block HK.out
  have hpx : w.heap.size + 1 < ((w.alloc (.cells #[.slice a1 b.prems.length c1, .slice a2 b.rules.length c2, .slice a3 b.proms.length c3] 32)).alloc (.cells #[.bool x.neg, .string x.name] 46)).heap.size := by simp
  obtain ⟨k0, k1, k2⟩ := bcell3 HK.out
  have HK1 := hidIt k0
  have HPB := hidIt hpb
  have HPX := hidIt hpx
  have HY0 : Hid (_ = _) := HX0.out
  have HY1 : Hid (_ = _) := HX1.out
  clear k0 k1 k2 hpb hpx HX0 HX1
  generalize ((w.alloc (.cells #[.slice a1 b.prems.length c1, .slice a2 b.rules.length c2, .slice a3 b.proms.length c3] 32)).alloc (.cells #[.bool x.neg, .string x.name] 46)) = w1 at *
  have HROW := hidIt (RowIn.form HR.out)
  go_loopw [5] (fun i wr => ∃ k : Nat, k ≤ b.prems.length ∧ i = .int .i64 k ∧ Hid (Below w1.heap.size w1 wr) ∧ Hid (∀ j (hj : j < b.prems.length), j < k → hasLit x b.prems[j] = false)) (fun i _ => b.prems.length - (intOf i).toNat)
  case atStart => exact ⟨0, Nat.zero_le _, rfl, Below.refl _ _, fun j hj h => absurd h (by omega)⟩
  case round =>
    obtain ⟨k, hk, rfl, HBr, HF⟩ := hrel
    have HBw := hidIt (HG.out.trans (HBr.out.mono HG.out.size))
    have k1 := (HBr.out.cell (p := ⟨w.heap.size, 0, none⟩) HPB.out).trans HK1.out
    have hpb := Nat.lt_of_lt_of_le HPB.out HBr.out.size
    by_cases hlt : k < b.prems.length
    · have hkr := hlt
      obtain ⟨a2', c2', e2, -, -, hrow⟩ := HROW.out
      injection e2 with e2 e3 e4
      subst e2 e4
      obtain ⟨bb, off, rfl, hbl, d0', d1', -, -, -⟩ := hrow k hkr
      have d0 := (HBr.out.cell (p := ⟨bb, off + k * 5, none⟩) hbl).trans d0'
      have d1 := (HBr.out.cell (p := ⟨bb, off + k * 5 + 1, none⟩) hbl).trans d1'
      have hbl2 := Nat.lt_of_lt_of_le hbl HBr.out.size
      have hltI : (k : Int) < (b.prems.length : Int) := by omega
      have hk0 : (0 : Int) ≤ (k : Int) := by omega
      clear hrow d0' d1' hbl
      have hx0 := (HBr.out.cell (p := ⟨w.heap.size + 1, 0, none⟩) HPX.out).trans HY0.out
      have hx1 := (HBr.out.cell (p := ⟨w.heap.size + 1, 1, none⟩) HPX.out).trans HY1.out
      have hpx := Nat.lt_of_lt_of_le HPX.out HBr.out.size
      have hgd := fun (op : BinOp) (a b' : Operand) (w : World) => gdL op a b' b.prems[k].lit.neg x.neg b.prems[k].lit.name x.name w
      have HPK : Hid (hasLit x b.prems[k] = decide (b.prems[k].lit = x)) := hasLit_eq x b.prems[k]
      by_cases he : b.prems[k].lit = x
      · have hq : ∀ w, (Op.equalIn 10000 46 (.agg #[.bool b.prems[k].lit.neg, .string b.prems[k].lit.name]) (.agg #[.bool x.neg, .string x.name])).run Tryz.prog w = .ok true w := fun w => by rw [eqFieldsL, decide_eq_true]; exact he
        have HE := hidIt he
        clear he
        go_wp2_with fail
        go_quiet (fail)
        go_wp2_with fail
        go_ret
        refine ⟨?_, ⟨HBw.out.os, HBw.out.tape, HBw.out.output, HBw.out.size, HBw.out.block⟩⟩
        rw [posI_at (p := hasLit x) hkr (by rw [HPK.out, decide_eq_true HE.out]) (fun j hj => HF.out j (by omega) hj)]
        rfl
      · have hq : ∀ w, (Op.equalIn 10000 46 (.agg #[.bool b.prems[k].lit.neg, .string b.prems[k].lit.name]) (.agg #[.bool x.neg, .string x.name])).run Tryz.prog w = .ok false w := fun w => by rw [eqFieldsL, decide_eq_false]; exact he
        have HE := hidIt he
        clear he
        go_wp2_with fail
        go_quiet (fail)
        go_wp2_with fail
        go_roundw
        case rel =>
          refine ⟨k + 1, by omega, by go_num, ⟨HBr.out.os, HBr.out.tape, HBr.out.output, HBr.out.size, HBr.out.block⟩, fun j hj hjk => ?_⟩
          by_cases hjj : j < k
          · exact HF.out j hj hjj
          · obtain rfl : j = k := by omega
            rw [HPK.out, decide_eq_false HE.out]
        case measure => simp [intOf]; omega
    · obtain rfl : k = b.prems.length := by omega
      go_wp2_with fail
      go_ret
      refine ⟨?_, HBw.out⟩
      rw [posI_no (p := hasLit x) (fun j hj => HF.out j hj hj)]
      rfl

end Go.Proofs.YtfcoplplkbeljaaGreatDoor

namespace Go.Proofs.YtfcoplplkbeljaaGreatDoor
set_option linter.unusedVariables false
set_option linter.unusedSimpArgs false
open Go Go.RowKit

/-- Texts and numbers of a rule base are such as a program can hold. -/
def PmOk (p : Pm) : Prop := p.lit.name.size ≤ maxLen ∧ p.src.size ≤ maxLen ∧ I64 p.kind ∧ I64 p.rank
def RuOk (r : Ru) : Prop := r.name.size ≤ maxLen ∧ I64 r.rank ∧ r.head.name.size ≤ maxLen ∧ ∀ x ∈ r.body, x.name.size ≤ maxLen
def PrOk (p : Pr) : Prop := p.rule.size ≤ maxLen ∧ I64 p.rank ∧ p.lit.name.size ≤ maxLen
def BsOk (b : Bs) : Prop := (∀ p ∈ b.prems, PmOk p) ∧ (∀ r ∈ b.rules, RuOk r) ∧ ∀ p ∈ b.proms, PrOk p

theorem bcell5 {w : World} {b : Nat} {u0 u1 u2 u3 u4 : Value} {t : TypeId} (h : w.heap[b]? = some (.cells #[u0, u1, u2, u3, u4] t (0, 0))) : w.cell? ⟨b, 0, none⟩ = some u0 ∧ w.cell? ⟨b, 1, none⟩ = some u1 ∧ w.cell? ⟨b, 2, none⟩ = some u2 ∧ w.cell? ⟨b, 3, none⟩ = some u3 ∧ w.cell? ⟨b, 4, none⟩ = some u4 :=
  ⟨by simp [World.cell?, h], by simp [World.cell?, h], by simp [World.cell?, h], by simp [World.cell?, h], by simp [World.cell?, h]⟩
theorem bcell4 {w : World} {b : Nat} {u0 u1 u2 u3 : Value} {t : TypeId} (h : w.heap[b]? = some (.cells #[u0, u1, u2, u3] t (0, 0))) : w.cell? ⟨b, 0, none⟩ = some u0 ∧ w.cell? ⟨b, 1, none⟩ = some u1 ∧ w.cell? ⟨b, 2, none⟩ = some u2 ∧ w.cell? ⟨b, 3, none⟩ = some u3 :=
  ⟨by simp [World.cell?, h], by simp [World.cell?, h], by simp [World.cell?, h], by simp [World.cell?, h]⟩

/-- What is wrong with a premise, beside those before it: 4 no such kind, 1 out of range, 5 there already. -/
def premB (p : Pm) : Bool := vn p.lit.name && rankB p.rank (decide (p.kind = 2)) && srcB p.src
def premE (b : Bs) (p : Pm) (i : Nat) : Int := if ¬ (p.kind = 1 ∨ p.kind = 2 ∨ p.kind = 3) then 4 else if premB p = false then 1 else if posI (hasLit p.lit) b.prems < (i : Int) then 5 else 0

set_option maxHeartbeats 2000000 in
theorem valPrem_any (b : Bs) (hb : BsOk b) (v : Value) (i : Nat) (hi : i < b.prems.length) (w : World) (hv : BaseAt w v b) :
    Calls Tryz.prog 101 #[v, .int .i64 (i : Int)] w fun e w' => e = .returned (.int .i64 (premE b b.prems[i] i)) ∧ Below w.heap.size w w' := by
  have HVW := hidIt hv
  obtain ⟨a1, a2, a3, c1, c2, c3, rfl, hlen, hcap, -, -, -, -, hr, -, -⟩ := hv.form
  obtain ⟨o1, o2, o3, o4⟩ := hb.1 _ (List.getElem_mem hi)
  obtain ⟨a1', c1', e1, -, -, hrow⟩ := RowIn.form hr
  injection e1 with e1 e2 e3
  subst e1 e3
  obtain ⟨bb, off, rfl, hbl, d0, d1, d2, d3, d4⟩ := hrow i hi
  have hiI : (i : Int) < (b.prems.length : Int) := by omega
  have hi0 : (0 : Int) ≤ (i : Int) := by omega
  have hl1 : b.prems.length ≤ 9223372036854775807 := by unfold maxLen at hcap; omega
  generalize hp : b.prems[i] = p at *
  obtain ⟨⟨g, s⟩, kd, rk, sr⟩ := p
  simp only at d0 d1 d2 d3 d4 o1 o2 o3 o4
  have hgr := bgrow w (.cells #[.slice (some ⟨bb, off, none⟩) b.prems.length c1, .slice a2 b.rules.length c2, .slice a3 b.proms.length c3] 32)
  have x0 := (hgr.cell (p := ⟨bb, _, none⟩) hbl).trans d0
  have x1 := (hgr.cell (p := ⟨bb, _, none⟩) hbl).trans d1
  have x2 := (hgr.cell (p := ⟨bb, _, none⟩) hbl).trans d2
  have x3 := (hgr.cell (p := ⟨bb, _, none⟩) hbl).trans d3
  have x4 := (hgr.cell (p := ⟨bb, _, none⟩) hbl).trans d4
  have hbl2 := Nat.lt_of_lt_of_le hbl hgr.size
  have hg2 := bgrow2 w (.cells #[.slice (some ⟨bb, off, none⟩) b.prems.length c1, .slice a2 b.rules.length c2, .slice a3 b.proms.length c3] 32) (.cells #[.bool g, .string s, .int .i64 kd, .int .i64 rk, .string sr] 74)
  have HB0 := hidIt hg2
  have HV0 := hidIt (HVW.out.below hg2)
  have HK0 := hidIt (blk_kept2 (heap_alloc_new w (.cells #[.slice (some ⟨bb, off, none⟩) b.prems.length c1, .slice a2 b.rules.length c2, .slice a3 b.proms.length c3] 32)) (bgrow _ (.cells #[.bool g, .string s, .int .i64 kd, .int .i64 rk, .string sr] 74)))
  have HP0 := hidIt (heap_alloc_new (w.alloc (.cells #[.slice (some ⟨bb, off, none⟩) b.prems.length c1, .slice a2 b.rules.length c2, .slice a3 b.proms.length c3] 32)) (.cells #[.bool g, .string s, .int .i64 kd, .int .i64 rk, .string sr] 74))
  rw [size_alloc] at HP0
  clear hrow hr hv hgr hg2 hbl d0 d1 d2 d3 d4 HVW e2
  by_cases hkd : kd = 1 ∨ kd = 2 ∨ kd = 3
  case neg =>
    have n1 : ¬ kd = 1 := fun h => hkd (.inl h)
    have n2 : ¬ kd = 2 := fun h => hkd (.inr (.inl h))
    have n3 : ¬ kd = 3 := fun h => hkd (.inr (.inr h))
    have HE : Hid (premE b ⟨⟨g, s⟩, kd, rk, sr⟩ i = 4) := by show _ = _; unfold premE; rw [if_pos hkd]
    rw [HE.out]
    clear hkd
    go_enter Tryz.func101, Tryz.ntmps101
    go_wp2_with fail
    all_goals first | (go_ret; exact ⟨rfl, HB0.out⟩) | (exfalso; simp_all)
  case pos =>
  have HE : Hid (premE b ⟨⟨g, s⟩, kd, rk, sr⟩ i = if (vn s && rankB rk (decide (kd = 2)) && srcB sr) = false then 1 else if posI (hasLit ⟨g, s⟩) b.prems < (i : Int) then 5 else 0) := by show _ = _; unfold premE; rw [if_neg (fun h => h hkd)]; rfl
  generalize premE b ⟨⟨g, s⟩, kd, rk, sr⟩ i = E at *
  rcases hkd with rfl | rfl | rfl
  all_goals (
  go_enter Tryz.func101, Tryz.ntmps101
  go_wp2_with fail
  clear x0 x1 x2 x3 x4 hbl2
  generalize ((w.alloc (.cells #[.slice (some ⟨bb, off, none⟩) b.prems.length c1, .slice a2 b.rules.length c2, .slice a3 b.proms.length c3] 32)).alloc _) = w0 at *
  refine (valid_any g s _ o1).mono ?_
  rintro e w1 ⟨rfl, hb1⟩
  have HB1 := hidIt (HB0.out.trans (hb1.mono HB0.out.size))
  have HV1 := hidIt (HV0.out.below hb1)
  have HK1 := hidIt (blk_kept2 HK0.out hb1)
  have HP1 := hidIt (blk_kept2 HP0.out hb1)
  clear hb1 HB0 HV0 HK0 HP0
  obtain ⟨p0, p1, p2, p3, p4⟩ := bcell5 HP1.out
  obtain ⟨k0, k1, k2⟩ := bcell3 HK1.out
  have lp := lt_of_block HP1.out
  have lk := lt_of_block HK1.out
  cases h1 : vn s
  · go_wp2_with fail
    go_ret
    exact ⟨ret_int (by rw [HE.out, h1]; rfl), HB1.out⟩
  go_wp2_with fail
  refine (rankFits_any rk _ o4 _).mono ?_
  rintro e w2 ⟨rfl, rfl⟩
  cases h2 : rankB rk _
  · go_wp2_with fail
    go_ret
    refine ⟨ret_int ?_, HB1.out⟩
    rw [HE.out, h1]
    simp [h2]
  go_wp2_with fail
  refine (sourceFits_any sr o2 _).mono ?_
  rintro e w2 ⟨rfl, rfl⟩
  have HQ : Hid (∀ y : Bool, srcB sr = y → E = if y = false then 1 else if posI (hasLit ⟨g, s⟩) b.prems < (i : Int) then 5 else 0) := fun y hy => by
    rw [HE.out, h1, hy]
    simp [h2]
  clear HE
  cases h3 : srcB sr
  · go_wp2_with fail
    go_ret
    exact ⟨ret_int (by rw [HQ.out _ h3]; rfl), HB1.out⟩
  have HF := hidIt (HQ.out _ h3)
  clear HQ
  go_wp2_with fail
  refine (bpremise_any b _ ⟨g, s⟩ _ HV1.out).mono ?_
  rintro e w3 ⟨rfl, hb3⟩
  have HB3 := hidIt (HB1.out.trans (hb3.mono HB1.out.size))
  clear hb3 p0 p1 p2 p3 p4 k0 k1 k2 lp lk HV1 HK1 HP1
  generalize posI (hasLit ⟨g, s⟩) b.prems = z at *
  by_cases hz : z < (i : Int)
  · have hF : E = 5 := by rw [HF.out, if_neg (by decide), if_pos hz]
    clear HF
    go_wp2_with fail
    go_ret
    exact ⟨ret_int hF.symm, HB3.out⟩
  · have hF : E = 0 := by rw [HF.out, if_neg (by decide), if_neg hz]
    clear HF
    go_wp2_with fail
    go_ret
    exact ⟨ret_int hF.symm, HB3.out⟩)

end Go.Proofs.YtfcoplplkbeljaaGreatDoor

namespace Go.Proofs.YtfcoplplkbeljaaGreatDoor
set_option linter.unusedVariables false
set_option linter.unusedSimpArgs false
open Go Go.RowKit

theorem posI_cases {α : Type} (p : α → Bool) (xs : List α) : posI p xs = -1 ∨ ∃ k : Nat, k < xs.length ∧ posI p xs = (k : Int) := by
  unfold posI
  by_cases h : xs.findIdx p < xs.length
  · rw [if_pos h]; exact .inr ⟨_, h, rfl⟩
  · rw [if_neg h]; exact .inl rfl

/-- What is wrong with a promotion: 1 out of range, 6 no such rule, 4 the rule is strict. -/
def strictAt (b : Bs) (z : Int) : Bool := (b.rules[z.toNat]?).any fun r => r.strict
def promE (b : Bs) (p : Pr) : Int := if (rankB p.rank true && vn p.lit.name) = false then 1 else if posI (hasName p.rule) b.rules < 0 then 6 else if strictAt b (posI (hasName p.rule) b.rules) = true then 4 else 0

set_option maxHeartbeats 2000000 in
theorem valProm_any (b : Bs) (v : Value) (p : Pr) (hp : PrOk p) (w : World) (hv : BaseAt w v b) :
    Calls Tryz.prog 103 #[v, .agg #[.string p.rule, .int .i64 p.rank, .bool p.lit.neg, .string p.lit.name]] w fun e w' => e = .returned (.int .i64 (promE b p)) ∧ Below w.heap.size w w' := by
  have HVW := hidIt hv
  obtain ⟨a1, a2, a3, c1, c2, c3, rfl, -, -, hlen, hcap, -, -, -, hr, -⟩ := hv.form
  obtain ⟨rl, rk, ⟨g, s⟩⟩ := p
  obtain ⟨o1, o2, o3⟩ := hp
  simp only at o1 o2 o3 ⊢
  have hl1 : b.rules.length ≤ 9223372036854775807 := by unfold maxLen at hcap; omega
  have hg2 := bgrow2 w (.cells #[.slice a1 b.prems.length c1, .slice a2 b.rules.length c2, .slice a3 b.proms.length c3] 32) (.cells #[.string rl, .int .i64 rk, .bool g, .string s] 78)
  have HB0 := hidIt hg2
  have HV0 := hidIt (HVW.out.below hg2)
  have HK0 := hidIt (blk_kept2 (heap_alloc_new w (.cells #[.slice a1 b.prems.length c1, .slice a2 b.rules.length c2, .slice a3 b.proms.length c3] 32)) (bgrow _ (.cells #[.string rl, .int .i64 rk, .bool g, .string s] 78)))
  have HP0 := hidIt (heap_alloc_new (w.alloc (.cells #[.slice a1 b.prems.length c1, .slice a2 b.rules.length c2, .slice a3 b.proms.length c3] 32)) (.cells #[.string rl, .int .i64 rk, .bool g, .string s] 78))
  rw [size_alloc] at HP0
  have HR0 := hidIt (hr.below hg2)
  have HE : Hid (promE b ⟨rl, rk, ⟨g, s⟩⟩ = if (rankB rk true && vn s) = false then 1 else if posI (hasName rl) b.rules < 0 then 6 else if strictAt b (posI (hasName rl) b.rules) = true then 4 else 0) := by show _ = _; rfl
  generalize promE b ⟨rl, rk, ⟨g, s⟩⟩ = E at *
  clear hv hr hg2 HVW
  go_enter Tryz.func103, Tryz.ntmps103
  go_wp2_with fail
  generalize ((w.alloc (.cells #[.slice a1 b.prems.length c1, .slice a2 b.rules.length c2, .slice a3 b.proms.length c3] 32)).alloc _) = w0 at *
  refine (rankFits_any rk _ o2 _).mono ?_
  rintro e w1 ⟨rfl, rfl⟩
  obtain ⟨p0, p1, p2, p3⟩ := bcell4 HP0.out
  obtain ⟨k0, k1, k2⟩ := bcell3 HK0.out
  have lp := lt_of_block HP0.out
  have lk := lt_of_block HK0.out
  cases h1 : rankB rk true
  · go_wp2_with fail
    go_ret
    exact ⟨ret_int (by rw [HE.out, h1]; rfl), HB0.out⟩
  go_wp2_with fail
  refine (valid_any g s _ o3).mono ?_
  rintro e w1 ⟨rfl, hb1⟩
  have HB1 := hidIt (HB0.out.trans (hb1.mono HB0.out.size))
  have HV1 := hidIt (HV0.out.below hb1)
  have HR1 := hidIt (HR0.out.below hb1)
  have HK1 := hidIt (blk_kept2 HK0.out hb1)
  have HP1 := hidIt (blk_kept2 HP0.out hb1)
  clear hb1 HB0 HV0 HK0 HP0 HR0 p0 p1 p2 p3 k0 k1 k2 lp lk
  obtain ⟨p0, p1, p2, p3⟩ := bcell4 HP1.out
  obtain ⟨k0, k1, k2⟩ := bcell3 HK1.out
  have lp := lt_of_block HP1.out
  have lk := lt_of_block HK1.out
  cases h2 : vn s
  · go_wp2_with fail
    go_ret
    exact ⟨ret_int (by rw [HE.out, h1, h2]; rfl), HB1.out⟩
  have HF : Hid (E = if posI (hasName rl) b.rules < 0 then 6 else if strictAt b (posI (hasName rl) b.rules) = true then 4 else 0) := by show _ = _; rw [HE.out, h1, h2]; rfl
  clear HE
  go_wp2_with fail
  refine (bfind_any b _ rl _ HV1.out).mono ?_
  rintro e w2 ⟨rfl, hb2⟩
  have HB2 := hidIt (HB1.out.trans (hb2.mono HB1.out.size))
  have HR2 := hidIt (HR1.out.below hb2)
  have HK2 := hidIt (blk_kept2 HK1.out hb2)
  clear hb2 HB1 HV1 HK1 HP1 HR1 p0 p1 p2 p3 k0 k1 k2 lp lk
  obtain ⟨k0, k1, k2⟩ := bcell3 HK2.out
  have lk := lt_of_block HK2.out
  rcases posI_cases (hasName rl) b.rules with hz | ⟨k, hk, hz⟩
  · rw [hz] at HF ⊢
    have hF : E = 6 := by rw [HF.out]; rfl
    clear HF
    go_wp2_with fail
    go_ret
    exact ⟨ret_int hF.symm, HB2.out⟩
  · rw [hz] at HF ⊢
    have hkI : (k : Int) < (b.rules.length : Int) := by omega
    have hk0 : (0 : Int) ≤ (k : Int) := by omega
    have hkn : ¬ (k : Int) < 0 := by omega
    obtain ⟨a2', c2', e2, -, -, hrow⟩ := RowIn.form HR2.out
    injection e2 with e2 e3 e4
    subst e2 e4
    obtain ⟨bb, off, rfl, hbl, bv, d0, d1, d2, d3, d4, d5, -⟩ := hrow k hk
    have HS : Hid (strictAt b (k : Int) = b.rules[k].strict) := by show _ = _; unfold strictAt; rw [Int.toNat_natCast, List.getElem?_eq_getElem hk]; rfl
    clear hrow d0 d2 d3 d4 d5
    cases h3 : b.rules[k].strict
    · have hF : E = 0 := by rw [HF.out, if_neg hkn, HS.out, h3]; rfl
      rw [h3] at d1
      clear HF
      go_wp2_with fail
      go_ret
      exact ⟨ret_int hF.symm, HB2.out⟩
    · have hF : E = 4 := by rw [HF.out, if_neg hkn, HS.out, h3]; rfl
      rw [h3] at d1
      clear HF
      go_wp2_with fail
      go_ret
      exact ⟨ret_int hF.symm, HB2.out⟩

end Go.Proofs.YtfcoplplkbeljaaGreatDoor

namespace Go.Proofs.YtfcoplplkbeljaaGreatDoor
set_option linter.unusedVariables false
set_option linter.unusedSimpArgs false
open Go Go.RowKit

theorem BodyAt.form {w : World} {v : Value} {xs : List Lt} (h : BodyAt w v xs) :
    ∃ (a : Option Addr) (cap : Nat), v = .slice a xs.length cap ∧ xs.length ≤ cap ∧ cap ≤ maxLen ∧ ∀ i (h : i < xs.length), ∃ b off : Nat, a = some ⟨b, off, none⟩ ∧ b < w.heap.size ∧ w.cell? ⟨b, off + i * 2, none⟩ = some (.bool (xs[i]).neg) ∧ w.cell? ⟨b, off + i * 2 + 1, none⟩ = some (.string (xs[i]).name) := by
  rcases h with ⟨⟨a, c, h1, hc⟩, h2⟩ | ⟨b, off, cap, h1, h2, h3, h4, h5⟩
  · subst h2
    exact ⟨a, c, h1, by simp, hc, fun i hi => absurd hi (by simp)⟩
  · exact ⟨_, cap, h1, h2, h3, fun i hi => ⟨b, off, rfl, h4, h5 i hi⟩⟩

def badL (x : Lt) : Bool := !vn x.name

set_option maxHeartbeats 1000000 in
theorem idxLit_any (xs : List Lt) (hs : ∀ x ∈ xs, x.name.size ≤ maxLen) (v : Value) (w : World) (hv : BodyAt w v xs) :
    Calls Tryz.prog 180 #[v, .func (Fn.func 147) #[] #[]] w fun e w' => e = .returned (.int .i64 (posI badL xs)) ∧ Below w.heap.size w w' := by
  obtain ⟨a, cap, rfl, hlen, hcap, hrow⟩ := hv.form
  have HR := hidIt hrow
  have HS := hidIt hs
  have hl1 : xs.length ≤ 9223372036854775807 := by unfold maxLen at hcap; omega
  clear hrow hv hs
  go_enter Tryz.func180, Tryz.ntmps180
  go_wp2_with fail
  go_loopw [5, 8] (fun _ i wr => ∃ k : Nat, k ≤ xs.length ∧ i = .int .i64 k ∧ Hid (Below w.heap.size w wr) ∧ Hid (∀ j (hj : j < xs.length), j < k → badL xs[j] = false)) (fun _ i _ => xs.length - (intOf i).toNat)
  case atStart => exact ⟨0, Nat.zero_le _, rfl, Below.refl _ _, fun j hj h => absurd h (by omega)⟩
  case round =>
    obtain ⟨k, hk, rfl, HB, HF⟩ := hrel
    by_cases hlt : k < xs.length
    · have hkr := hlt
      obtain ⟨b, off, rfl, hbl, c0, c1⟩ := HR.out k hkr
      have hltI : (k : Int) < (xs.length : Int) := by omega
      have hk0 : (0 : Int) ≤ (k : Int) := by omega
      have d0 := (HB.out.cell (p := ⟨b, off + k * 2, none⟩) hbl).trans c0
      have d1 := (HB.out.cell (p := ⟨b, off + k * 2 + 1, none⟩) hbl).trans c1
      have hbl2 := Nat.lt_of_lt_of_le hbl HB.out.size
      clear c0 c1
      go_wp2_with fail
      refine (notValid_any xs[k].neg xs[k].name (HS.out _ (List.getElem_mem hkr)) wr).mono ?_
      rintro e w1 ⟨rfl, hb1⟩
      have HB1 := hidIt (HB.out.trans (hb1.mono HB.out.size))
      clear hb1 d0 d1
      have HP : Hid (badL xs[k] = !vn xs[k].name) := by show _ = _; rfl
      cases hp : vn xs[k].name
      · go_wp2_with fail
        go_ret
        refine ⟨?_, HB1.out⟩
        rw [posI_at (p := badL) hkr (by rw [HP.out, hp]; rfl) (fun j hj => HF.out j (by omega) hj)]
        rfl
      · go_wp2_with fail
        go_roundw
        case rel =>
          refine ⟨k + 1, by omega, by go_num, HB1, fun j hj hjk => ?_⟩
          by_cases hjj : j < k
          · exact HF.out j hj hjj
          · obtain rfl : j = k := by omega
            rw [HP.out, hp]; rfl
        case measure => simp [intOf]; omega
    · obtain rfl : k = xs.length := by omega
      go_wp2_with fail
      go_ret
      refine ⟨?_, HB.out⟩
      rw [posI_no (p := badL) (fun j hj => HF.out j hj hj)]
      rfl

theorem posI_any {α : Type} (p : α → Bool) (xs : List α) : (decide (0 ≤ posI p xs)) = xs.any p := by
  unfold posI
  cases h : xs.any p
  · rw [List.any_eq_false] at h
    have e : xs.findIdx p = xs.length := by
      rw [List.findIdx_eq_length]
      intro x hx
      simpa using h x hx
    rw [e, if_neg (Nat.lt_irrefl _)]
    rfl
  · rw [List.any_eq_true] at h
    obtain ⟨x, hx, hp⟩ := h
    rw [if_pos (List.findIdx_lt_length.2 ⟨x, hx, hp⟩), decide_eq_true (by omega)]

theorem anyLit_any (xs : List Lt) (hs : ∀ x ∈ xs, x.name.size ≤ maxLen) (v : Value) (w : World) (hv : BodyAt w v xs) :
    Calls Tryz.prog 146 #[v, .func (Fn.func 147) #[] #[]] w fun e w' => e = .returned (.bool (xs.any badL)) ∧ Below w.heap.size w w' := by
  have HV := hidIt hv
  obtain ⟨a, cap, rfl, -⟩ := hv.form
  clear hv
  go_enter Tryz.func146, Tryz.ntmps146
  go_wp2_with fail
  refine (idxLit_any xs hs _ w HV.out).mono ?_
  rintro e w1 ⟨rfl, hb1⟩
  have HB1 := hidIt hb1
  have HA := hidIt (posI_any badL xs)
  clear hb1
  go_wp2_with fail
  go_ret
  exact ⟨ret_bool HA.out, HB1.out⟩

set_option maxHeartbeats 1000000 in
theorem eqLits_any (xs ys : List Lt) (v u : Value) (w : World) (hv : BodyAt w v xs) (hu : BodyAt w u ys) :
    Calls Tryz.prog 148 #[v, u] w fun e w' => e = .returned (.bool (decide (xs = ys))) ∧ Below w.heap.size w w' := by
  obtain ⟨a, cap, rfl, hlen, hcap, hrow⟩ := hv.form
  obtain ⟨a2, cap2, rfl, hlen2, hcap2, hrow2⟩ := hu.form
  have HR := hidIt hrow
  have HR2 := hidIt hrow2
  have hl1 : xs.length ≤ 9223372036854775807 := by unfold maxLen at hcap; omega
  have hl2 : ys.length ≤ 9223372036854775807 := by unfold maxLen at hcap2; omega
  clear hrow hv hrow2 hu
  by_cases hL : xs.length = ys.length
  case neg =>
    have hne : (((xs.length : Nat) : Int) != ((ys.length : Nat) : Int)) = true := by rw [bne_iff_ne]; omega
    have HD : Hid (decide (xs = ys) = false) := decide_eq_false (fun h => hL (by rw [h]))
    clear hL
    go_enter Tryz.func148, Tryz.ntmps148
    go_wp2_with fail
    all_goals first | (go_ret; exact ⟨ret_bool HD.out.symm, Below.refl _ _⟩) | (exfalso; simp_all)
  case pos =>
  have hqq : (((xs.length : Nat) : Int) != ((ys.length : Nat) : Int)) = false := by rw [bne_eq_false_iff_eq]; omega
  have HL := hidIt hL
  clear hL
  go_enter Tryz.func148, Tryz.ntmps148
  go_wp2_with fail
  go_loopw [5, 13] (fun _ i wr => ∃ k : Nat, k ≤ xs.length ∧ i = .int .i64 k ∧ Hid (Below w.heap.size w wr) ∧ Hid (∀ j (hj : j < xs.length) (hj2 : j < ys.length), j < k → xs[j] = ys[j])) (fun _ i _ => xs.length - (intOf i).toNat)
  case atStart => exact ⟨0, Nat.zero_le _, rfl, Below.refl _ _, fun j hj hj2 h => absurd h (by omega)⟩
  case round =>
    obtain ⟨k, hk, rfl, HB, HF⟩ := hrel
    by_cases hlt : k < xs.length
    · have hkr := hlt
      have hkr2 : k < ys.length := by rw [← HL.out]; exact hlt
      obtain ⟨b, off, rfl, hbl, c0, c1⟩ := HR.out k hkr
      obtain ⟨b2, off2, rfl, hbl2, c2, c3⟩ := HR2.out k hkr2
      have hltI : (k : Int) < (xs.length : Int) := by omega
      have hltI2 : (k : Int) < (ys.length : Int) := by omega
      have hk0 : (0 : Int) ≤ (k : Int) := by omega
      have d0 := (HB.out.cell (p := ⟨b, off + k * 2, none⟩) hbl).trans c0
      have d1 := (HB.out.cell (p := ⟨b, off + k * 2 + 1, none⟩) hbl).trans c1
      have d2 := (HB.out.cell (p := ⟨b2, off2 + k * 2, none⟩) hbl2).trans c2
      have d3 := (HB.out.cell (p := ⟨b2, off2 + k * 2 + 1, none⟩) hbl2).trans c3
      have hm1 := Nat.lt_of_lt_of_le hbl HB.out.size
      have hm2 := Nat.lt_of_lt_of_le hbl2 HB.out.size
      clear c0 c1 c2 c3 hbl hbl2
      have HX : Hid (xs[k] = ⟨xs[k].neg, xs[k].name⟩) := by show _ = _; rfl
      have hgd := fun (op : BinOp) (a b' : Operand) (w : World) => gdL op a b' xs[k].neg ys[k].neg xs[k].name ys[k].name w
      by_cases he : xs[k] = ys[k]
      · have hq : ∀ w, (Op.equalIn 10000 46 (.agg #[.bool xs[k].neg, .string xs[k].name]) (.agg #[.bool ys[k].neg, .string ys[k].name])).run Tryz.prog w = .ok true w := fun w => by rw [eqFieldsL, decide_eq_true]; exact he
        have HE := hidIt he
        clear he
        go_wp2_with fail
        go_quiet (fail)
        go_wp2_with fail
        go_roundw
        case rel =>
          refine ⟨k + 1, by omega, by go_num, ⟨HB.out.os, HB.out.tape, HB.out.output, HB.out.size, HB.out.block⟩, fun j hj hj2 hjk => ?_⟩
          by_cases hjj : j < k
          · exact HF.out j hj hj2 hjj
          · obtain rfl : j = k := by omega
            exact HE.out
        case measure => simp [intOf]; omega
      · have hq : ∀ w, (Op.equalIn 10000 46 (.agg #[.bool xs[k].neg, .string xs[k].name]) (.agg #[.bool ys[k].neg, .string ys[k].name])).run Tryz.prog w = .ok false w := fun w => by rw [eqFieldsL, decide_eq_false]; exact he
        have HE := hidIt he
        clear he
        go_wp2_with fail
        go_quiet (fail)
        go_wp2_with fail
        go_ret
        refine ⟨ret_bool ?_, ⟨HB.out.os, HB.out.tape, HB.out.output, HB.out.size, HB.out.block⟩⟩
        rw [decide_eq_false]
        intro h
        apply HE.out
        subst h
        rfl
    · obtain rfl : k = xs.length := by omega
      go_wp2_with fail
      go_ret
      refine ⟨ret_bool ?_, HB.out⟩
      rw [decide_eq_true]
      exact List.ext_getElem HL.out fun j hj hj2 => HF.out j hj hj2 hj

end Go.Proofs.YtfcoplplkbeljaaGreatDoor
