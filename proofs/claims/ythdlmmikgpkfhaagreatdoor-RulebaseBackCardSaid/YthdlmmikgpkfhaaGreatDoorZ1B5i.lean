/- Validate of a rule base. -/
import Derived.Test.YthdlmmikgpkfhaaGreatDoorZ1B5h

namespace Go.Proofs.YthdlmmikgpkfhaaGreatDoor
set_option linter.unusedVariables false
set_option linter.unusedSimpArgs false
open Go Go.RowKit

/-- The first error of k, or 0. -/
def errUp (f : Nat → Int) : Nat → Int
  | 0 => 0
  | k + 1 => if errUp f k = 0 then f k else errUp f k
theorem errUp_stop {f : Nat → Int} {k : Nat} (h0 : errUp f k = 0) (hf : f k ≠ 0) : ∀ n, k < n → errUp f n = f k
  | 0, h => absurd h (by omega)
  | n + 1, h => by
    by_cases e : k = n
    · subst e
      rw [errUp, if_pos h0]
    · have := errUp_stop h0 hf n (by omega)
      rw [errUp, this, if_neg hf]
theorem errUp_next {f : Nat → Int} {k : Nat} (h0 : errUp f k = 0) (hf : f k = 0) : errUp f (k + 1) = 0 := by rw [errUp, if_pos h0, hf]

def premF (b : Bs) (i : Nat) : Int := if h : i < b.prems.length then premE b b.prems[i] i else 0
def ruleF (b : Bs) (i : Nat) : Int := if h : i < b.rules.length then ruleE b b.rules[i] i else 0
def promF (b : Bs) (i : Nat) : Int := if h : i < b.proms.length then promE b b.proms[i] else 0
/-- The error of a rule base. -/
def baseE (b : Bs) : Int :=
  if 16 < b.prems.length ∨ 24 < b.rules.length ∨ 8 < b.proms.length then 2
  else if errUp (premF b) b.prems.length ≠ 0 then errUp (premF b) b.prems.length
  else if errUp (ruleF b) b.rules.length ≠ 0 then errUp (ruleF b) b.rules.length
  else errUp (promF b) b.proms.length

set_option maxHeartbeats 2000000 in
theorem bvalidate_any (b : Bs) (hb : BsOk b) (v : Value) (w : World) (hv : BaseAt w v b) :
    Calls Tryz.prog 19 #[v] w fun e w' => e = .returned (.int .i64 (baseE b)) ∧ Below w.heap.size w w' := by
  have HVW := hidIt hv
  obtain ⟨a1, a2, a3, c1, c2, c3, rfl, m1, n1, m2, n2, m3, n3, -, -, hq⟩ := hv.form
  have hl1 : b.prems.length ≤ 9223372036854775807 := by unfold maxLen at n1; omega
  have hl2 : b.rules.length ≤ 9223372036854775807 := by unfold maxLen at n2; omega
  have hl3 : b.proms.length ≤ 9223372036854775807 := by unfold maxLen at n3; omega
  have hgr := bgrow w (.cells #[.slice a1 b.prems.length c1, .slice a2 b.rules.length c2, .slice a3 b.proms.length c3] 26)
  have HB0 := hidIt hgr
  have HV0 := hidIt (HVW.out.below hgr)
  have HQ0 := hidIt (hq.below hgr)
  have HK0 := hidIt (heap_alloc_new w (.cells #[.slice a1 b.prems.length c1, .slice a2 b.rules.length c2, .slice a3 b.proms.length c3] 26))
  have HE : Hid (baseE b = if 16 < b.prems.length ∨ 24 < b.rules.length ∨ 8 < b.proms.length then 2
    else if errUp (premF b) b.prems.length ≠ 0 then errUp (premF b) b.prems.length
    else if errUp (ruleF b) b.rules.length ≠ 0 then errUp (ruleF b) b.rules.length
    else errUp (promF b) b.proms.length) := by show _ = _; rfl
  generalize baseE b = E at *
  clear hv hgr HVW m1 m2 m3 n1 n2 hq
  by_cases hbig : 16 < b.prems.length ∨ 24 < b.rules.length ∨ 8 < b.proms.length
  case pos =>
    have HE2 : Hid (E = 2) := by show _ = _; rw [HE.out, if_pos hbig]
    clear HE
    by_cases h1 : 16 < b.prems.length
    · have h1I : (16 : Int) < (b.prems.length : Int) := by omega
      clear hbig h1
      go_enter Tryz.func19, Tryz.ntmps19
      go_wp2_with fail
      go_ret
      exact ⟨ret_int HE2.out.symm, HB0.out⟩
    by_cases h2 : 24 < b.rules.length
    · have h1I : ¬ (16 : Int) < (b.prems.length : Int) := by omega
      have h2I : (24 : Int) < (b.rules.length : Int) := by omega
      clear hbig h1 h2
      go_enter Tryz.func19, Tryz.ntmps19
      go_wp2_with fail
      go_ret
      exact ⟨ret_int HE2.out.symm, HB0.out⟩
    · have h1I : ¬ (16 : Int) < (b.prems.length : Int) := by omega
      have h2I : ¬ (24 : Int) < (b.rules.length : Int) := by omega
      have h3I : (8 : Int) < (b.proms.length : Int) := by omega
      clear hbig h1 h2
      go_enter Tryz.func19, Tryz.ntmps19
      go_wp2_with fail
      go_ret
      exact ⟨ret_int HE2.out.symm, HB0.out⟩
  case neg =>
  have h1I : ¬ (16 : Int) < (b.prems.length : Int) := by omega
  have h2I : ¬ (24 : Int) < (b.rules.length : Int) := by omega
  have h3I : ¬ (8 : Int) < (b.proms.length : Int) := by omega
  have HE2 : Hid (E = if errUp (premF b) b.prems.length ≠ 0 then errUp (premF b) b.prems.length
    else if errUp (ruleF b) b.rules.length ≠ 0 then errUp (ruleF b) b.rules.length
    else errUp (promF b) b.proms.length) := by show _ = _; rw [HE.out, if_neg hbig]
  clear HE hbig
  have HEa : Hid (∀ k, k < b.prems.length → errUp (premF b) k = 0 → premF b k ≠ 0 → E = premF b k) := fun k hk h0 hf => by
    have := errUp_stop h0 hf _ hk
    rw [HE2.out, if_pos (by rw [this]; exact hf), this]
  have HEb : Hid (errUp (premF b) b.prems.length = 0 → ∀ k, k < b.rules.length → errUp (ruleF b) k = 0 → ruleF b k ≠ 0 → E = ruleF b k) := fun hz k hk h0 hf => by
    have := errUp_stop h0 hf _ hk
    rw [HE2.out, if_neg (fun h => h hz), if_pos (by rw [this]; exact hf), this]
  have HEc : Hid (errUp (premF b) b.prems.length = 0 → errUp (ruleF b) b.rules.length = 0 → E = errUp (promF b) b.proms.length) := fun hz hy => by
    rw [HE2.out, if_neg (fun h => h hz), if_neg (fun h => h hy)]
  clear HE2
  have HP1 : Hid (∀ k (hk : k < b.prems.length), premF b k = premE b b.prems[k] k) := fun k hk => dif_pos hk
  have HP2 : Hid (∀ k (hk : k < b.rules.length), ruleF b k = ruleE b b.rules[k] k) := fun k hk => dif_pos hk
  have HP3 : Hid (∀ k (hk : k < b.proms.length), promF b k = promE b b.proms[k]) := fun k hk => dif_pos hk
  generalize premF b = f1 at *
  generalize ruleF b = f2 at *
  generalize promF b = f3 at *
  go_enter Tryz.func19, Tryz.ntmps19
  go_wp2_with fail
  generalize (w.alloc (.cells #[.slice a1 b.prems.length c1, .slice a2 b.rules.length c2, .slice a3 b.proms.length c3] 26)) = w0 at *
  go_loopw [3, 4, 29] (fun _ _ i wr => ∃ k : Nat, k ≤ b.prems.length ∧ i = .int .i64 k ∧ Hid (Below w0.heap.size w0 wr) ∧ Hid (errUp f1 k = 0)) (fun _ _ i _ => b.prems.length - (intOf i).toNat)
  case atStart => exact ⟨0, Nat.zero_le _, rfl, Below.refl _ _, rfl⟩
  case round =>
    obtain ⟨k, hk, rfl, HBr, HF⟩ := hrel
    have HKr := hidIt (blk_kept2 HK0.out HBr.out)
    obtain ⟨k0, k1, k2⟩ := bcell3 HKr.out
    have lk := lt_of_block HKr.out
    by_cases hlt : k < b.prems.length
    · have hkr := hlt
      have hltI : (k : Int) < (b.prems.length : Int) := by omega
      have hk0 : (0 : Int) ≤ (k : Int) := by omega
      go_wp2_with fail
      refine (valPrem_any b hb _ k hkr wr (HV0.out.below HBr.out)).mono ?_
      rintro e w1 ⟨rfl, hb1⟩
      rw [← HP1.out k hkr]
      have HB1 := hidIt (HBr.out.trans (Below.mono hb1 HBr.out.size))
      have HBW := hidIt (HB0.out.trans (Below.mono HB1.out HB0.out.size))
      clear hb1 k0 k1 k2 lk HKr
      by_cases hz : f1 k = 0
      · rw [hz]
        go_wp2_with fail
        go_roundw
        case rel => exact ⟨k + 1, by omega, by go_num, HB1, errUp_next HF.out hz⟩
        case measure => simp [intOf]; omega
      · have hzb : (f1 k == 0) = false := beq_eq_false_iff_ne.2 hz
        have HEE := hidIt (HEa.out k hkr HF.out hz)
        go_wp2_with fail
        go_ret
        exact ⟨ret_int HEE.out.symm, HBW.out⟩
    · obtain rfl : k = b.prems.length := by omega
      have HEb2 := hidIt (HEb.out HF.out)
      have HEc2 := hidIt (HEc.out HF.out)
      have HB2 := hidIt (HB0.out.trans (Below.mono HBr.out HB0.out.size))
      have HV2 := hidIt (HV0.out.below HBr.out)
      have HQ2 := hidIt (HQ0.out.below HBr.out)
      clear HEa HEb HEc HB0 HV0 HQ0 HK0 HF HBr
      go_wp2_with fail
      clear k0 k1 k2 lk
      generalize hwA : wr = wA at *
      clear hwA
      go_loopw [5, 6, 42] (fun _ _ i ws => ∃ k : Nat, k ≤ b.rules.length ∧ i = .int .i64 k ∧ Hid (Below wA.heap.size wA ws) ∧ Hid (errUp f2 k = 0)) (fun _ _ i _ => b.rules.length - (intOf i).toNat)
      case atStart => exact ⟨0, Nat.zero_le _, rfl, Below.refl _ _, rfl⟩
      case round =>
        obtain ⟨k, hk, rfl, HBs, HF⟩ := hrel
        have HKs := hidIt (blk_kept2 HKr.out HBs.out)
        obtain ⟨k0, k1, k2⟩ := bcell3 HKs.out
        have lk := lt_of_block HKs.out
        by_cases hlt : k < b.rules.length
        · have hkr := hlt
          have hltI : (k : Int) < (b.rules.length : Int) := by omega
          have hk0 : (0 : Int) ≤ (k : Int) := by omega
          go_wp2_with fail
          refine (valRule_any b hb _ k hkr wr (HV2.out.below HBs.out)).mono ?_
          rintro e w1 ⟨rfl, hb1⟩
          rw [← HP2.out k hkr]
          have HB1 := hidIt (HBs.out.trans (Below.mono hb1 HBs.out.size))
          have HBW := hidIt (HB2.out.trans (Below.mono HB1.out HB2.out.size))
          clear hb1 k0 k1 k2 lk HKs
          by_cases hz : f2 k = 0
          · rw [hz]
            go_wp2_with fail
            go_roundw
            case rel => exact ⟨k + 1, by omega, by go_num, HB1, errUp_next HF.out hz⟩
            case measure => simp [intOf]; omega
          · have hzb : (f2 k == 0) = false := beq_eq_false_iff_ne.2 hz
            have HEE := hidIt (HEb2.out k hkr HF.out hz)
            go_wp2_with fail
            go_ret
            exact ⟨ret_int HEE.out.symm, HBW.out⟩
        · obtain rfl : k = b.rules.length := by omega
          have HEc3 := hidIt (HEc2.out HF.out)
          have HB3 := hidIt (HB2.out.trans (Below.mono HBs.out HB2.out.size))
          have HV3 := hidIt (HV2.out.below HBs.out)
          have HQ3 := hidIt (HQ2.out.below HBs.out)
          clear HEb2 HEc2 HB2 HV2 HQ2 HKr HF HBs
          go_wp2_with fail
          clear k0 k1 k2 lk
          generalize hwB : wr = wB at *
          clear hwB
          have HROW := hidIt (RowIn.form HQ3.out)
          go_loopw [8, 9, 55] (fun _ _ i ws => ∃ k : Nat, k ≤ b.proms.length ∧ i = .int .i64 k ∧ Hid (Below wB.heap.size wB ws) ∧ Hid (errUp f3 k = 0)) (fun _ _ i _ => b.proms.length - (intOf i).toNat)
          case atStart => exact ⟨0, Nat.zero_le _, rfl, Below.refl _ _, rfl⟩
          case round =>
            obtain ⟨k, hk, rfl, HBt, HF⟩ := hrel
            by_cases hlt : k < b.proms.length
            · have hkr := hlt
              have hltI : (k : Int) < (b.proms.length : Int) := by omega
              have hk0 : (0 : Int) ≤ (k : Int) := by omega
              obtain ⟨a3', c3', e2, -, -, hrow⟩ := HROW.out
              injection e2 with e2 e3 e4
              subst e2 e4
              obtain ⟨bb, off, rfl, hbl, d0', d1', d2', d3'⟩ := hrow k hkr
              have hgr := bgrow wr (.cells #[.string b.proms[k].rule, .int .i64 b.proms[k].rank, .bool b.proms[k].lit.neg, .string b.proms[k].lit.name] 68)
              have d0 := (HBt.out.cell (p := ⟨bb, off + k * 4, none⟩) hbl).trans d0'
              have d1 := (HBt.out.cell (p := ⟨bb, off + k * 4 + 1, none⟩) hbl).trans d1'
              have d2 := (HBt.out.cell (p := ⟨bb, off + k * 4 + 2, none⟩) hbl).trans d2'
              have d3 := (HBt.out.cell (p := ⟨bb, off + k * 4 + 3, none⟩) hbl).trans d3'
              have hbl2 := Nat.lt_of_lt_of_le hbl HBt.out.size
              have HBu := hidIt (HBt.out.trans (Below.mono hgr HBt.out.size))
              have HKt := hidIt (blk_kept2 HKs.out HBu.out)
              obtain ⟨k0, k1, k2⟩ := bcell3 HKt.out
              have lk := lt_of_block HKt.out
              clear hrow d0' d1' d2' d3' hgr hbl
              have hpo := hb.2.2 _ (List.getElem_mem hkr)
              go_wp2_with fail
              refine (valProm_any b _ b.proms[k] hpo _ (HV3.out.below HBu.out)).mono ?_
              rintro e w1 ⟨rfl, hb1⟩
              rw [← HP3.out k hkr]
              have HB1 := hidIt (HBu.out.trans (Below.mono hb1 HBu.out.size))
              have HBW := hidIt (HB3.out.trans (Below.mono HB1.out HB3.out.size))
              clear hb1 k0 k1 k2 lk HKt d0 d1 d2 d3 hbl2
              by_cases hz : f3 k = 0
              · rw [hz]
                go_wp2_with fail
                go_roundw
                case rel => exact ⟨k + 1, by omega, by go_num, HB1, errUp_next HF.out hz⟩
                case measure => simp [intOf]; omega
              · have hzb : (f3 k == 0) = false := beq_eq_false_iff_ne.2 hz
                have HEE : Hid (E = f3 k) := by show _ = _; rw [HEc3.out, errUp_stop HF.out hz _ hkr]
                go_wp2_with fail
                go_ret
                exact ⟨ret_int HEE.out.symm, HBW.out⟩
            · obtain rfl : k = b.proms.length := by omega
              have HEE : Hid (E = 0) := by show _ = _; rw [HEc3.out, HF.out]
              have HBW := hidIt (HB3.out.trans (Below.mono HBt.out HB3.out.size))
              go_wp2_with fail
              go_ret
              exact ⟨ret_int HEE.out.symm, HBW.out⟩

end Go.Proofs.YthdlmmikgpkfhaaGreatDoor
