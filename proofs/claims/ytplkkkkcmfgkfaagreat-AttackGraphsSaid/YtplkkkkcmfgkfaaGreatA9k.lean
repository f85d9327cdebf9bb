/- Defeats at the chapter's two arguments, and the chapter's examples. -/
import Derived.Test.YtplkkkkcmfgkfaaGreatA9r
import Derived.Test.YtplkkkkcmfgkfaaGreatA9t
import Derived.Test.YtplkkkkcmfgkfaaGreatA9w
namespace Go.Proofs.YtplkkkkcmfgkfaaGreat
set_option linter.unusedVariables false
set_option linter.unusedSimpArgs false
open Go Go.RowKit Go.Sort

set_option maxRecDepth 100000 in
set_option maxHeartbeats 1000000 in
theorem defeats_two (pb pc g c : Nat) (w : World) (h : CR w g argC) (hp : CR w pb premC) :
    Calls Tryz.prog 19 #[.agg #[.slice (some ⟨pb, 0, none⟩) 2 pc, .slice none 0 0, .slice none 0 0], .slice (some ⟨g, 0, none⟩) 2 c, .agg #[.int .i64 1, .int .i64 1]] w fun e w' => ∃ g' c' : Nat, e = .returned (.slice (some ⟨g', 0, none⟩) 1 c') ∧ 1 ≤ c' ∧ c' ≤ maxLen ∧ CR w' g' [.int .i64 1, .int .i64 0, .int .i64 0, .int .i64 1] ∧ Below w.heap.size w w' := by
  have hg1 := bgrow w (.cells #[.slice (some ⟨pb, 0, none⟩) 2 pc, .slice none 0 0, .slice none 0 0] 58)
  have hg2 := bgrow (w.alloc (.cells #[.slice (some ⟨pb, 0, none⟩) 2 pc, .slice none 0 0, .slice none 0 0] 58)) (.cells #[.slice (some ⟨g, 0, none⟩) 2 c] 59)
  have hg3 := bgrow ((w.alloc (.cells #[.slice (some ⟨pb, 0, none⟩) 2 pc, .slice none 0 0, .slice none 0 0] 58)).alloc (.cells #[.slice (some ⟨g, 0, none⟩) 2 c] 59)) (.cells #[.int .i64 1, .int .i64 1] 65)
  have h1 := CR.new w [.slice (some ⟨pb, 0, none⟩) 2 pc, .slice none 0 0, .slice none 0 0] 58
  have h2 := CR.new (w.alloc (.cells #[.slice (some ⟨pb, 0, none⟩) 2 pc, .slice none 0 0, .slice none 0 0] 58)) [.slice (some ⟨g, 0, none⟩) 2 c] 59
  have h3 := CR.new ((w.alloc (.cells #[.slice (some ⟨pb, 0, none⟩) 2 pc, .slice none 0 0, .slice none 0 0] 58)).alloc (.cells #[.slice (some ⟨g, 0, none⟩) 2 c] 59)) [.int .i64 1, .int .i64 1] 65
  rw [show ([Value.slice (some ⟨pb, 0, none⟩) 2 pc, .slice none 0 0, .slice none 0 0].toArray : Array Value) = #[.slice (some ⟨pb, 0, none⟩) 2 pc, .slice none 0 0, .slice none 0 0] from rfl] at h1
  rw [World.size_alloc, show ([Value.slice (some ⟨g, 0, none⟩) 2 c].toArray : Array Value) = #[.slice (some ⟨g, 0, none⟩) 2 c] from rfl] at h2
  rw [World.size_alloc, World.size_alloc, show ([Value.int .i64 1, .int .i64 1].toArray : Array Value) = #[.int .i64 1, .int .i64 1] from rfl] at h3
  have HC := hidIt (Cap.mk ((h1.go hg2).go hg3) (h2.go hg3) h3 (((h.go hg1).go hg2).go hg3) (((hp.go hg1).go hg2).go hg3))
  have HB := hidIt ((hg1.trans (Below.mono hg2 hg1.size)).trans (Below.mono hg3 (Nat.le_trans hg1.size hg2.size)))
  have HL : Hid (w.heap.size ≤ (((w.alloc (.cells #[.slice (some ⟨pb, 0, none⟩) 2 pc, .slice none 0 0, .slice none 0 0] 58)).alloc (.cells #[.slice (some ⟨g, 0, none⟩) 2 c] 59)).alloc (.cells #[.int .i64 1, .int .i64 1] 65)).heap.size) := Nat.le_trans (Nat.le_trans hg1.size hg2.size) hg3.size
  clear hg1 hg2 hg3 h1 h2 h3 h hp
  go_enter Tryz.func19, Tryz.ntmps19
  go_upto_region 1 with (fail)
  generalize (((w.alloc (.cells #[.slice (some ⟨pb, 0, none⟩) 2 pc, .slice none 0 0, .slice none 0 0] 58)).alloc (.cells #[.slice (some ⟨g, 0, none⟩) 2 c] 59)).alloc (.cells #[.int .i64 1, .int .i64 1] 65)) = w1 at *
  have b0 := HC.out.base.at_ 0 _ rfl
  have b1 := HC.out.base.at_ 1 _ rfl
  have b2 := HC.out.base.at_ 2 _ rfl
  have lb := HC.out.base.1
  have a0 := HC.out.args.at_ 0 _ rfl
  have la := HC.out.args.1
  go_wp2_with fail
  refine (attacks_two pb pc g c _ HC.out.arg HC.out.prem).mono ?_
  rintro e w2 ⟨g2, c2, rfl, hg2, hc2, hcm, hrw, hb⟩
  have HCM := hidIt hcm
  clear hcm
  have HC2 := hidIt (HC.out.go hb)
  have HR2 := hidIt hrw
  have HB2 := hidIt (HB.out.trans (Below.mono hb HL.out))
  have HL2 : Hid (w.heap.size ≤ w2.heap.size) := Nat.le_trans HL.out hb.size
  have HG2 : Hid (w.heap.size ≤ g2) := Nat.le_trans HL.out hg2
  have HCA := hidIt hc2
  clear hb hrw hg2 hc2 b0 b1 b2 lb a0 la
  go_wp2_with fail
  refine (delA_two w.heap.size _ _ _ pb pc g c g2 c2 _ HC2.out HR2.out HG2.out HL2.out HCA.out).mono ?_
  rintro e w3 ⟨rfl, hcr, hb⟩
  have HE := hidIt hcr
  have HB3 := hidIt (HB2.out.trans hb)
  clear hcr hb
  go_wp2_with fail
  go_ret
  exact ⟨g2, c2, rfl, Nat.le_of_succ_le HCA.out, HCM.out, HE.out, HB3.out⟩

theorem att9Struct : Tryz.prog.underlying 28 = some (.struct (Tryz.prog.fieldsOf 28)) := by kernel_rfl
theorem att9Stood : Tryz.prog.stoodInHeld 28 = false := by kernel_rfl
theorem att9Guard : Tryz.prog.eqGuardType Tryz.prog.depth 28 = false := by kernel_rfl
theorem eqAtt9 (w : World) : (Op.equalIn 10000 28 (.agg #[.int .i64 1, .int .i64 0, .int .i64 0, .int .i64 1]) (.agg #[.int .i64 1, .int .i64 0, .int .i64 0, .int .i64 1])).run Tryz.prog w = .ok true w := by
  have u4 := Tryz.underlying3
  rw [show (10000 : Nat) = 9999 + 1 from rfl, run_equalIn_agg w 9999 28 _ _ att9Struct att9Stood]
  simp only [Program.fieldsOf, Tryz.underlying28]
  go_simp
theorem gdAtt9 (op : BinOp) (x y : Operand) (w : World) : (eqGuard op 28 x y (.agg #[.int .i64 1, .int .i64 0, .int .i64 0, .int .i64 1]) (.agg #[.int .i64 1, .int .i64 0, .int .i64 0, .int .i64 1])).run Tryz.prog w = .ok () w := run_eqGuard_agg w op 28 x y _ _ att9Guard
theorem graph_two (v : Value) (w : World) (h : AtsAt w v [⟨1, 0, 0, 1⟩]) : Calls Tryz.prog 7 #[.int .i64 2, v] w fun e w' => ∃ (a : Option Addr) (c : Nat), e = .returned (.tuple #[.agg #[.int .i64 2, .slice a 1 c], .int .i64 0]) ∧ Below w.heap.size w w' :=
  (graph_any 2 v [⟨1, 0, 0, 1⟩] (by decide) (by decide) w h).mono fun e w' ⟨gv, he, hp, hb⟩ => by
    have hk : gOk 2 [(⟨1, 0, 0, 1⟩ : At4)] = true := by decide
    rw [if_pos hk, if_pos hk] at he
    rw [if_pos hk] at hp
    have hn : (nrm (prs [(⟨1, 0, 0, 1⟩ : At4)])).length = 1 := by
      have h1 := nrm_facts (prs [(⟨1, 0, 0, 1⟩ : At4)])
      have h2 := nrm_len (prs [(⟨1, 0, 0, 1⟩ : At4)])
      have h3 : ((1, 0) : Int × Int) ∈ nrm (prs [(⟨1, 0, 0, 1⟩ : At4)]) := (h1.2 _).2 (by simp [prs])
      have h4 := List.length_pos_of_mem h3
      have h5 : (prs [(⟨1, 0, 0, 1⟩ : At4)]).length = 1 := rfl
      omega
    obtain ⟨a, c, hv, -⟩ := hp.form
    rw [hn] at hv
    exact ⟨a, c, by rw [he, hv], hb⟩

set_option maxRecDepth 100000 in
set_option maxHeartbeats 2000000 in
theorem awake9 (w : World) : Calls Tryz.prog 10 #[] w fun e w' => e = .returned (.bool true) ∧ Below w.heap.size w w' := by
  have hg1 := bgrow w (.cells #[.bool false, .string ⟨#[112]⟩] 51)
  have hg2 := bgrow (w.alloc (.cells #[.bool false, .string ⟨#[112]⟩] 51)) (.cells #[.bool true, .string ⟨#[112]⟩] 51)
  have HX := hidIt (blk_kept2 (heap_alloc_new w (.cells #[.bool false, .string ⟨#[112]⟩] 51)) hg2)
  have hY := heap_alloc_new (w.alloc (.cells #[.bool false, .string ⟨#[112]⟩] 51)) (.cells #[.bool true, .string ⟨#[112]⟩] 51)
  rw [World.size_alloc] at hY
  have HY := hidIt hY
  have HB := hidIt (hg1.trans (Below.mono hg2 hg1.size))
  have HL : Hid (w.heap.size ≤ ((w.alloc (.cells #[.bool false, .string ⟨#[112]⟩] 51)).alloc (.cells #[.bool true, .string ⟨#[112]⟩] 51)).heap.size) := Nat.le_trans hg1.size hg2.size
  clear hg1 hg2 hY
  go_enter Tryz.func10, Tryz.ntmps10
  go_upto_region 2 with (fail)
  generalize ((w.alloc (.cells #[.bool false, .string ⟨#[112]⟩] 51)).alloc (.cells #[.bool true, .string ⟨#[112]⟩] 51)) = v1 at *
  have x0 := cell_two0 HX.out
  have x1 := cell_two1 HX.out
  have lx := lt_of_block HX.out
  have y0 := cell_two0 HY.out
  have y1 := cell_two1 HY.out
  have ly := lt_of_block HY.out
  have hg1 := bgrow v1 (.cells #[.bool false, .string ⟨#[112]⟩, .int .i64 2, .int .i64 1, .string ⟨#[]⟩, .bool true, .string ⟨#[112]⟩, .int .i64 2, .int .i64 2, .string ⟨#[]⟩] 53)
  have hg2 := bgrow (v1.alloc (.cells #[.bool false, .string ⟨#[112]⟩, .int .i64 2, .int .i64 1, .string ⟨#[]⟩, .bool true, .string ⟨#[112]⟩, .int .i64 2, .int .i64 2, .string ⟨#[]⟩] 53)) (.cells #[.slice (some ⟨v1.heap.size, 0, none⟩) 2 2, .slice none 0 0, .slice none 0 0] 58)
  have hP := CR.new v1 premC 53
  rw [show premC.toArray = #[.bool false, .string ⟨#[112]⟩, .int .i64 2, .int .i64 1, .string ⟨#[]⟩, .bool true, .string ⟨#[112]⟩, .int .i64 2, .int .i64 2, .string ⟨#[]⟩] from rfl] at hP
  have HP := hidIt (hP.go hg2)
  have hZ := heap_alloc_new (v1.alloc (.cells #[.bool false, .string ⟨#[112]⟩, .int .i64 2, .int .i64 1, .string ⟨#[]⟩, .bool true, .string ⟨#[112]⟩, .int .i64 2, .int .i64 2, .string ⟨#[]⟩] 53)) (.cells #[.slice (some ⟨v1.heap.size, 0, none⟩) 2 2, .slice none 0 0, .slice none 0 0] 58)
  rw [World.size_alloc] at hZ
  have HZ := hidIt hZ
  have HB2 := hidIt ((HB.out.trans (Below.mono hg1 HL.out)).trans (Below.mono hg2 (Nat.le_trans HL.out hg1.size)))
  have HL2 : Hid (w.heap.size ≤ ((v1.alloc (.cells #[.bool false, .string ⟨#[112]⟩, .int .i64 2, .int .i64 1, .string ⟨#[]⟩, .bool true, .string ⟨#[112]⟩, .int .i64 2, .int .i64 2, .string ⟨#[]⟩] 53)).alloc (.cells #[.slice (some ⟨v1.heap.size, 0, none⟩) 2 2, .slice none 0 0, .slice none 0 0] 58)).heap.size) := Nat.le_trans (Nat.le_trans HL.out hg1.size) hg2.size
  clear hg1 hg2 hP hZ HB HL HX HY
  go_upto_region 3 with (fail)
  generalize ((v1.alloc (.cells #[.bool false, .string ⟨#[112]⟩, .int .i64 2, .int .i64 1, .string ⟨#[]⟩, .bool true, .string ⟨#[112]⟩, .int .i64 2, .int .i64 2, .string ⟨#[]⟩] 53)).alloc (.cells #[.slice (some ⟨v1.heap.size, 0, none⟩) 2 2, .slice none 0 0, .slice none 0 0] 58)) = v2 at *
  clear x0 x1 lx y0 y1 ly
  generalize v1.heap.size = pb at *
  obtain ⟨z0, z1, z2⟩ := base3 HZ.out
  have lz := lt_of_block HZ.out
  go_wp2_with fail
  refine (rbuild_two pb 2 _ HP.out).mono ?_
  rintro e v3 ⟨g, c, rfl, ha, hb⟩
  have HA3 := hidIt ha
  have HP3 := hidIt (HP.out.go hb)
  have HZ3 := hidIt (blk_kept2 HZ.out hb)
  have HB3 := hidIt (HB2.out.trans (Below.mono hb HL2.out))
  have HL3 : Hid (w.heap.size ≤ v3.heap.size) := Nat.le_trans HL2.out hb.size
  clear ha hb HP HZ HB2 HL2 z0 z1 z2 lz
  obtain ⟨z0, z1, z2⟩ := base3 HZ3.out
  have lz := lt_of_block HZ3.out
  go_wp2_with fail
  refine (attacks_two pb 2 g c _ HA3.out HP3.out).mono ?_
  rintro e v4 ⟨ga, ca, rfl, -, -, -, -, hb⟩
  have HA4 := hidIt (HA3.out.go hb)
  have HP4 := hidIt (HP3.out.go hb)
  have HZ4 := hidIt (blk_kept2 HZ3.out hb)
  have HB4 := hidIt (HB3.out.trans (Below.mono hb HL3.out))
  have HL4 : Hid (w.heap.size ≤ v4.heap.size) := Nat.le_trans HL3.out hb.size
  clear hb HA3 HP3 HZ3 HB3 HL3 z0 z1 z2 lz
  obtain ⟨z0, z1, z2⟩ := base3 HZ4.out
  have lz := lt_of_block HZ4.out
  go_wp2_with fail
  refine (defeats_two pb 2 g c _ HA4.out HP4.out).mono ?_
  rintro e v5 ⟨gd, cd, rfl, hcd1, hcd2, hd, hb⟩
  have HD5 := hidIt hd
  have HB5 := hidIt (HB4.out.trans (Below.mono hb HL4.out))
  have HL5 : Hid (w.heap.size ≤ v5.heap.size) := Nat.le_trans HL4.out hb.size
  clear hb hd HA4 HP4 HZ4 HB4 HL4 z0 z1 z2 lz
  have HAT : Hid (AtsAt v5 (.slice (some ⟨gd, 0, none⟩) 1 cd) [⟨1, 0, 0, 1⟩]) := .inr ⟨gd, 0, cd, rfl, hcd1, hcd2, HD5.out.1, fun i hi => by
    obtain rfl : i = 0 := by simpa using hi
    exact ⟨HD5.out.at_ 0 _ rfl, HD5.out.at_ 1 _ rfl, HD5.out.at_ 2 _ rfl, HD5.out.at_ 3 _ rfl⟩⟩
  clear hcd1 hcd2
  go_wp2_with fail
  refine (graph_two _ _ HAT.out).mono ?_
  rintro e v6 ⟨ag, cg, rfl, hb⟩
  have hgr := bgrow v6 (.cells #[.int .i64 2, .slice ag 1 cg] 33)
  have HD7 := hidIt ((HD5.out.go hb).go hgr)
  have HG7 := hidIt (heap_alloc_new v6 (.cells #[.int .i64 2, .slice ag 1 cg] 33))
  have HB7 := hidIt ((HB5.out.trans (Below.mono hb HL5.out)).trans (Below.mono hgr (Nat.le_trans HL5.out hb.size)))
  clear hb hgr HD5 HB5 HL5 HAT
  go_upto_region 7 with (fail)
  generalize (v6.alloc (.cells #[.int .i64 2, .slice ag 1 cg] 33)) = v7 at *
  generalize v6.heap.size = PG at *
  have g0 := cell_two0 HG7.out
  have g1 := cell_two1 HG7.out
  have lg := lt_of_block HG7.out
  have d0 := HD7.out.at_ 0 _ rfl
  have d1 := HD7.out.at_ 1 _ rfl
  have d2 := HD7.out.at_ 2 _ rfl
  have d3 := HD7.out.at_ 3 _ rfl
  have ld := HD7.out.1
  have hq := eqAtt9
  have hgd := gdAtt9
  go_wp2_with fail
  go_ret
  exact ⟨rfl, HB7.out⟩
end Go.Proofs.YtplkkkkcmfgkfaaGreat
