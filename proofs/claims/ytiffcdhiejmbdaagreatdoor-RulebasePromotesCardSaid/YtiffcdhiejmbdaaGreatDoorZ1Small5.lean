/- keep.SmallBase answers, and what its yes says of a rule base. -/
import Derived.Test.YtiffcdhiejmbdaaGreatDoorZ1D

namespace Go.Proofs.YtiffcdhiejmbdaaGreatDoor
set_option linter.unusedVariables false
set_option linter.unusedSimpArgs false
open Go Go.RowKit

def Small5 (b : Bs) : Prop := b.prems.length ≤ 30 ∧ b.rules.length ≤ 30 ∧ b.proms.length ≤ 20 ∧ ∀ i (h : i < b.rules.length), b.rules[i].body.length ≤ 8
/-- The ending is a Boolean whose yes gives P. -/
def Gives (e : Ending) (P : Prop) : Prop := ∃ r : Bool, e = .returned (.bool r) ∧ (r = true → P)
theorem Gives.no {P : Prop} : Gives (.returned (.bool false)) P := ⟨false, rfl, fun h => by cases h⟩

set_option maxRecDepth 100000 in
set_option maxHeartbeats 8000000 in
theorem ksmall5_any (b : Bs) (v : Value) (w : World) (hv : BaseAt w v b) :
    Calls Tryz.prog 13 #[v] w fun e w' => Gives e (Small5 b) ∧ Below w.heap.size w w' := by
  obtain ⟨a1, a2, a3, c1, c2, c3, rfl, hl1, hm1, hl2, hm2, hl3, hm3, hp, hr, hq⟩ := hv.form
  have hgr := bgrow w (.cells #[.slice a1 b.prems.length c1, .slice a2 b.rules.length c2, .slice a3 b.proms.length c3] 26)
  have HB0 := hidIt hgr
  have HP0 := hidIt (hp.below hgr)
  have HR0 := hidIt (hr.below hgr)
  have HQ0 := hidIt (hq.below hgr)
  have HK0 := hidIt (heap_alloc_new w (.cells #[.slice a1 b.prems.length c1, .slice a2 b.rules.length c2, .slice a3 b.proms.length c3] 26))
  have hn1 : b.prems.length ≤ 9223372036854775807 := by unfold maxLen at hm1; omega
  have hn2 : b.rules.length ≤ 9223372036854775807 := by unfold maxLen at hm2; omega
  have hn3 : b.proms.length ≤ 9223372036854775807 := by unfold maxLen at hm3; omega
  clear hv hgr hp hr hq hl1 hl2 hl3 hm1 hm2 hm3
  obtain ⟨k0, k1, k2⟩ := bcell3 HK0.out
  have lk := lt_of_block HK0.out
  by_cases g1 : 30 < b.prems.length
  · have g1I : (30 : Int) < (b.prems.length : Int) := by omega
    clear g1
    go_enter Tryz.func13, Tryz.ntmps13
    go_wp2_with fail
    go_ret
    exact ⟨Gives.no, HB0.out⟩
  have g1I : ¬ (30 : Int) < (b.prems.length : Int) := by omega
  by_cases g2 : 30 < b.rules.length
  · have g2I : (30 : Int) < (b.rules.length : Int) := by omega
    clear g1 g2
    go_enter Tryz.func13, Tryz.ntmps13
    go_wp2_with fail
    go_ret
    exact ⟨Gives.no, HB0.out⟩
  have g2I : ¬ (30 : Int) < (b.rules.length : Int) := by omega
  by_cases g3 : 20 < b.proms.length
  · have g3I : (20 : Int) < (b.proms.length : Int) := by omega
    clear g1 g2 g3
    go_enter Tryz.func13, Tryz.ntmps13
    go_wp2_with fail
    go_ret
    exact ⟨Gives.no, HB0.out⟩
  have g3I : ¬ (20 : Int) < (b.proms.length : Int) := by omega
  have HSM : Hid (b.prems.length ≤ 30 ∧ b.rules.length ≤ 30 ∧ b.proms.length ≤ 20) := ⟨by omega, by omega, by omega⟩
  clear g1 g2 g3
  go_enter Tryz.func13, Tryz.ntmps13
  go_wp2_with fail
  clear k0 k1 k2 lk g1I g2I g3I
  generalize (w.alloc (.cells #[.slice a1 b.prems.length c1, .slice a2 b.rules.length c2, .slice a3 b.proms.length c3] 26)) = w0 at *
  go_loopw [30] (fun i wr => ∃ k : Nat, k ≤ b.prems.length ∧ i = .int .i64 k ∧ Hid (Below w0.heap.size w0 wr)) (fun i _ => b.prems.length - (intOf i).toNat)
  case atStart => exact ⟨0, Nat.zero_le _, rfl, Below.refl _ _⟩
  case round =>
    obtain ⟨k, hk, rfl, HBr⟩ := hrel
    by_cases hlt : k < b.prems.length
    · have hltI : (k : Int) < (b.prems.length : Int) := by omega
      have hk0 : (0 : Int) ≤ (k : Int) := by omega
      obtain ⟨aa, ca, ea, -, -, hrow⟩ := RowIn.form (HP0.out.below HBr.out)
      injection ea with ea eb ec
      subst ea ec
      obtain ⟨bb, off, rfl, hbl, x0, x1, x2, x3, x4⟩ := hrow k hlt
      have HBx := hidIt (HBr.out.trans (Below.mono (bgrow wr (.cells #[.bool b.prems[k].lit.neg, .string b.prems[k].lit.name, .int .i64 b.prems[k].kind, .int .i64 b.prems[k].rank, .string b.prems[k].src] 78)) HBr.out.size))
      have HBw := hidIt (HB0.out.trans (HBx.out.mono HB0.out.size))
      clear hrow
      by_cases h1 : 50 < b.prems[k].lit.name.size
      · have h1I : (50 : Int) < (b.prems[k].lit.name.size : Int) := by omega
        clear h1
        go_wp2_with fail
        go_ret
        exact ⟨Gives.no, HBw.out⟩
      have h1I : ¬ (50 : Int) < (b.prems[k].lit.name.size : Int) := by omega
      by_cases h2 : 50 < b.prems[k].src.size
      · have h2I : (50 : Int) < (b.prems[k].src.size : Int) := by omega
        clear h1 h2
        go_wp2_with fail
        go_ret
        exact ⟨Gives.no, HBw.out⟩
      have h2I : ¬ (50 : Int) < (b.prems[k].src.size : Int) := by omega
      clear h1 h2
      go_wp2_with fail
      go_roundw
      case rel => exact ⟨k + 1, by omega, by go_num, HBx.out⟩
      case measure => simp [intOf]; omega
    · have hltI : ¬ (k : Int) < (b.prems.length : Int) := by omega
      clear hlt hk
      have hK1 := blk_kept2 HK0.out HBr.out
      obtain ⟨k0, k1, k2⟩ := bcell3 hK1
      have lk := lt_of_block hK1
      clear hK1
      go_wp2_with fail
      clear k0 k1 k2 lk hltI
      go_loopw [49] (fun i wx => ∃ k : Nat, k ≤ b.rules.length ∧ i = .int .i64 k ∧ Hid (Below w0.heap.size w0 wx) ∧ Hid (∀ j (h : j < b.rules.length), j < k → b.rules[j].body.length ≤ 8)) (fun i _ => b.rules.length - (intOf i).toNat)
      case atStart => exact ⟨0, Nat.zero_le _, rfl, HBr.out, fun j _ h => absurd h (by omega)⟩
      case round =>
        clear HBr
        obtain ⟨k, hk, rfl, HBr, HS⟩ := hrel
        by_cases hlt : k < b.rules.length
        · have hltI : (k : Int) < (b.rules.length : Int) := by omega
          have hk0 : (0 : Int) ≤ (k : Int) := by omega
          obtain ⟨aa, ca, ea, -, -, hrow⟩ := RowIn.form (HR0.out.below HBr.out)
          injection ea with ea eb ec
          subst ea ec
          obtain ⟨bb, off, rfl, hbl, bv, x0, x1, x2, x3, x4, x5, hbd⟩ := hrow k hlt
          obtain ⟨av, cv, rfl, hbl3, hbl4, -⟩ := hbd.form
          have hgr := bgrow wr (.cells #[.string b.rules[k].name, .bool b.rules[k].strict, .int .i64 b.rules[k].rank, .slice av b.rules[k].body.length cv, .bool b.rules[k].head.neg, .string b.rules[k].head.name] 72)
          have HBx := hidIt (HBr.out.trans (Below.mono hgr HBr.out.size))
          have HBw := hidIt (HB0.out.trans (HBx.out.mono HB0.out.size))
          have HBD := hidIt (hbd.below hgr)
          have HN : Hid (b.rules[k].body.length ≤ 8 → ∀ j (h : j < b.rules.length), j < k + 1 → b.rules[j].body.length ≤ 8) := fun h j hj hjk => by
            by_cases e : j < k
            · exact HS.out j hj e
            · obtain rfl : j = k := by omega
              exact h
          have HKb := hidIt (heap_alloc_new wr (.cells #[.string b.rules[k].name, .bool b.rules[k].strict, .int .i64 b.rules[k].rank, .slice av b.rules[k].body.length cv, .bool b.rules[k].head.neg, .string b.rules[k].head.name] 72))
          clear hrow hbd hgr HS
          generalize b.rules[k].body = xs at *
          generalize b.rules[k].name = nm at *
          generalize b.rules[k].strict = st at *
          generalize b.rules[k].rank = rk at *
          generalize b.rules[k].head.neg = hg at *
          generalize b.rules[k].head.name = hn at *
          by_cases h1 : 8 < xs.length
          · have h1I : (8 : Int) < (xs.length : Int) := by omega
            clear h1
            go_wp2_with fail
            go_ret
            exact ⟨Gives.no, HBw.out⟩
          have h1I : ¬ (8 : Int) < (xs.length : Int) := by omega
          by_cases h2 : 50 < nm.size
          · have h2I : (50 : Int) < (nm.size : Int) := by omega
            clear h1 h2
            go_wp2_with fail
            go_ret
            exact ⟨Gives.no, HBw.out⟩
          have h2I : ¬ (50 : Int) < (nm.size : Int) := by omega
          by_cases h3 : 50 < hn.size
          · have h3I : (50 : Int) < (hn.size : Int) := by omega
            clear h1 h2 h3
            go_wp2_with fail
            go_ret
            exact ⟨Gives.no, HBw.out⟩
          have h3I : ¬ (50 : Int) < (hn.size : Int) := by omega
          have HN2 := hidIt (HN.out (by omega))
          have hxl : xs.length ≤ 9223372036854775807 := by omega
          clear h1 h2 h3 HN
          go_wp2_with fail
          clear h1I h2I h3I x0 x1 x2 x3 x4 x5 hbl
          generalize (wr.alloc (.cells #[.string nm, .bool st, .int .i64 rk, .slice av xs.length cv, .bool hg, .string hn] 72)) = w3 at *
          generalize wr.heap.size = p3 at *
          go_loopw [73] (fun i wx => ∃ j : Nat, j ≤ xs.length ∧ i = .int .i64 j ∧ Hid (Below w3.heap.size w3 wx)) (fun i _ => xs.length - (intOf i).toNat)
          case atStart => exact ⟨0, Nat.zero_le _, rfl, Below.refl _ _⟩
          case round =>
            obtain ⟨j, hj, rfl, HBs⟩ := hrel
            have HB4 := hidIt (HBx.out.trans (HBs.out.mono HBx.out.size))
            have HB5 := hidIt (HBw.out.trans (HBs.out.mono HBw.out.size))
            by_cases hjl : j < xs.length
            · have hjI : (j : Int) < (xs.length : Int) := by omega
              have hj0 : (0 : Int) ≤ (j : Int) := by omega
              obtain ⟨aa, ca, ea, -, -, hrow⟩ := (HBD.out.below HBs.out).form
              injection ea with ea eb ec
              subst ea ec
              obtain ⟨b2, o2, rfl, hbl2, y0, y1⟩ := hrow j hjl
              have hgr := bgrow wr (.cells #[.bool xs[j].neg, .string xs[j].name] 28)
              have HB6 := hidIt (HBs.out.trans (Below.mono hgr HBs.out.size))
              have HB7 := hidIt (HB5.out.trans (Below.mono hgr HB5.out.size))
              clear hrow hgr
              by_cases h1 : 50 < xs[j].name.size
              · have h1I : (50 : Int) < (xs[j].name.size : Int) := by omega
                clear h1
                go_wp2_with fail
                go_ret
                exact ⟨Gives.no, HB7.out⟩
              · have h1I : ¬ (50 : Int) < (xs[j].name.size : Int) := by omega
                clear h1
                go_wp2_with fail
                go_roundw
                case rel => exact ⟨j + 1, by omega, by go_num, HB6.out⟩
                case measure => simp [intOf]; omega
            · have hjI : ¬ (j : Int) < (xs.length : Int) := by omega
              go_wp2_with fail
              go_roundw
              case rel => exact ⟨k + 1, by omega, by go_num, HB4.out, HN2.out⟩
              case measure => simp [intOf]; omega
        · have hltI : ¬ (k : Int) < (b.rules.length : Int) := by omega
          have HSB : Hid (Small5 b) := ⟨HSM.out.1, HSM.out.2.1, HSM.out.2.2, fun i h => HS.out i h (by omega)⟩
          clear hlt hk HS
          have hK1 := blk_kept2 HK0.out HBr.out
          obtain ⟨k0, k1, k2⟩ := bcell3 hK1
          have lk := lt_of_block hK1
          clear hK1
          go_wp2_with fail
          clear k0 k1 k2 lk hltI
          go_loopw [86] (fun i wx => ∃ k : Nat, k ≤ b.proms.length ∧ i = .int .i64 k ∧ Hid (Below w0.heap.size w0 wx)) (fun i _ => b.proms.length - (intOf i).toNat)
          case atStart => exact ⟨0, Nat.zero_le _, rfl, HBr.out⟩
          case round =>
            clear HBr
            obtain ⟨k, hk, rfl, HBr⟩ := hrel
            by_cases hlt : k < b.proms.length
            · have hltI : (k : Int) < (b.proms.length : Int) := by omega
              have hk0 : (0 : Int) ≤ (k : Int) := by omega
              obtain ⟨aa, ca, ea, -, -, hrow⟩ := RowIn.form (HQ0.out.below HBr.out)
              injection ea with ea eb ec
              subst ea ec
              obtain ⟨bb, off, rfl, hbl, x0, x1, x2, x3⟩ := hrow k hlt
              have HBx := hidIt (HBr.out.trans (Below.mono (bgrow wr (.cells #[.string b.proms[k].rule, .int .i64 b.proms[k].rank, .bool b.proms[k].lit.neg, .string b.proms[k].lit.name] 80)) HBr.out.size))
              have HBw := hidIt (HB0.out.trans (HBx.out.mono HB0.out.size))
              clear hrow
              by_cases h1 : 50 < b.proms[k].rule.size
              · have h1I : (50 : Int) < (b.proms[k].rule.size : Int) := by omega
                clear h1
                go_wp2_with fail
                go_ret
                exact ⟨Gives.no, HBw.out⟩
              have h1I : ¬ (50 : Int) < (b.proms[k].rule.size : Int) := by omega
              by_cases h2 : 50 < b.proms[k].lit.name.size
              · have h2I : (50 : Int) < (b.proms[k].lit.name.size : Int) := by omega
                clear h1 h2
                go_wp2_with fail
                go_ret
                exact ⟨Gives.no, HBw.out⟩
              have h2I : ¬ (50 : Int) < (b.proms[k].lit.name.size : Int) := by omega
              clear h1 h2
              go_wp2_with fail
              go_roundw
              case rel => exact ⟨k + 1, by omega, by go_num, HBx.out⟩
              case measure => simp [intOf]; omega
            · have hltI : ¬ (k : Int) < (b.proms.length : Int) := by omega
              have HBw := hidIt (HB0.out.trans (HBr.out.mono HB0.out.size))
              go_wp2_with fail
              go_ret
              exact ⟨⟨true, rfl, fun _ => HSB.out⟩, HBw.out⟩
end Go.Proofs.YtiffcdhiejmbdaaGreatDoor
