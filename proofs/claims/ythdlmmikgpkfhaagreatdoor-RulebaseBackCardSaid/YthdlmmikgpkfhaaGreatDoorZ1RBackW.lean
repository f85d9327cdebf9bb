/- The law RulebaseBack: the call answers true for every text and every list of numbers. -/
import Derived.Test.YthdlmmikgpkfhaaGreatDoorZ1K5e
import Derived.Test.YthdlmmikgpkfhaaGreatDoorZ1R5same
import Derived.Test.YthdlmmikgpkfhaaGreatDoorZ1J
import Derived.Test.YthdlmmikgpkfhaaGreatDoorIn
import Derived.Test.YthdlmmikgpkfhaaGreatDoorNew

namespace Go.Proofs.YthdlmmikgpkfhaaGreatDoor
set_option linter.unusedVariables false
set_option linter.unusedSimpArgs false
open Go Go.RowKit

theorem BsFit.ok {b : Bs} (h : BsFit b) : BsOk b := by
  obtain ⟨h1, h2, h3, -⟩ := h
  have m : ∀ n : Nat, n ≤ 12 → n ≤ maxLen := fun n h => by unfold maxLen; omega
  refine ⟨fun p hp => ?_, fun r hr => ?_, fun p hp => ?_⟩
  · obtain ⟨hk, hr, hs, hl⟩ := h1 p hp
    exact ⟨m _ hl, m _ hs, by unfold I64; omega, by unfold I64; omega⟩
  · obtain ⟨hr, hn, hh, hb, -⟩ := h2 r hr
    exact ⟨m _ hn, by unfold I64; omega, m _ hh, fun x hx => m _ (hb x hx)⟩
  · obtain ⟨hr, hn, hl⟩ := h3 p hp
    exact ⟨m _ hn, by unfold I64; omega, m _ hl⟩
theorem r5same_true (b : Bs) (v u : Value) (w : World) (hv : BaseAt w v b) (hu : BaseAt w u b) :
    Calls Tryz.prog 31 #[v, u] w fun e w' => e = .returned (.bool true) ∧ Below w.heap.size w w' :=
  (r5same_any b b v u w hv hu).mono fun e w' ⟨⟨r, he, hr⟩, hb⟩ => ⟨by rw [he, hr.2 rfl], hb⟩

set_option maxRecDepth 100000 in
set_option maxHeartbeats 8000000 in
theorem rback_walk (s : ByteArray) (v : Value) (zs : List Int) (w : World) (hs : s.size ≤ maxLen) (hz : IntsAt w w.heap.size v zs) (hE : EnvOk w) :
    Calls Tryz.prog 6 #[.string s, v] w fun e w' => e = .returned (.bool true) ∧ Below w.heap.size w w' := by
  have HE := hidIt hE
  have HZ := hidIt hz
  clear hz hE
  by_cases hlong : 300 < s.size
  · have hl : (300 : Int) < (s.size : Int) := by omega
    go_enter Tryz.func6, Tryz.ntmps6
    go_wp2_with fail
    go_ret
    exact ⟨rfl, Below.refl _ _⟩
  have hl : ¬ (300 : Int) < (s.size : Int) := by omega
  go_enter Tryz.func6, Tryz.ntmps6
  go_wp2_with fail
  refine (new_any v zs w.heap.size w HZ.out (Nat.le_refl _)).mono ?_
  rintro e w1 ⟨zs1, rfl, hs1, o1, hw1⟩
  have HS1 := hidIt hs1
  have HB1 : Hid (Below w.heap.size w w1) := by show Below _ _ _; rw [hw1]; exact bgrow w o1
  clear hs1 hw1
  go_wp2_with fail
  refine (base_any 5 8 10 (by omega) (by omega) (by omega) (by omega) (by omega) w.heap.size w.heap.size zs1 0 w1 HS1.out).mono ?_
  rintro e w2 ⟨vb, bs, q2, rfl, hbo, hgen, hs2, hg2⟩
  have HB2 : Hid (Below w.heap.size w w2) := below_app5 HB1.out hg2 (fun g e => by injection e with e; omega) HB1.out.size
  have HV2 := hidIt hbo.at_
  have h0 := hgen.valid (by omega) (by omega) (by omega)
  have hfit := baseE_fit h0
  have hsz : (textL bs).size ≤ 4096 := by have := text_size hfit; have := hgen.np; have := hgen.nr; have := hgen.nq; omega
  have hfe : fmtE5 bs = 0 := by unfold fmtE5; rw [if_pos h0, if_neg (by omega)]
  have hft : fmtT5 bs = textL bs := by unfold fmtT5; rw [if_pos hfe]
  have HF : Hid (∀ wx v, EnvOk wx → BaseAt wx v bs → Calls Tryz.prog 28 #[v] wx fun e w' => e = .returned (.tuple #[.string (textL bs), .int .i64 0]) ∧ Below wx.heap.size wx w') := fun wx v hx hv => by
    have := bformat_any bs hfit.ok v wx hv hx.words
    rw [hfe, hft] at this
    exact this
  have HP : Hid (∀ wx, EnvOk wx → Calls Tryz.prog 35 #[.string (textL bs)] wx fun e w' => ∃ v : Value, e = .returned (.tuple #[v, .int .i64 0, .int .i64 0]) ∧ BaseAt w' v bs ∧ Below wx.heap.size wx w') := fun wx hx => by
    have := bparse_any (textL bs) (by unfold maxLen; omega) wx hx
    rw [parse_text5 h0 hsz] at this
    exact this
  have HC : Hid (∀ wx : World, Calls Tryz.prog 37 #[.string (textL bs), .string ⟨#[10]⟩] wx fun e w' => e = .returned (.int .i64 ((bs.prems.length : Int) + (bs.rules.length : Int) + (bs.proms.length : Int))) ∧ Below wx.heap.size wx w') := fun wx => by
    refine (Tryz.strings_Count_one (textL bs) 10 wx).mono fun e w' ⟨he, hw⟩ => ⟨?_, by rw [hw]; exact Below.refl _ _⟩
    rw [he, count_text (baseE_good h0)]
    congr 2
  have hn1 : bs.prems.length ≤ 16 := hfit.2.2.2.1
  have hn2 : bs.rules.length ≤ 24 := hfit.2.2.2.2.1
  have hn3 : bs.proms.length ≤ 8 := hfit.2.2.2.2.2
  generalize textL bs = T at *
  clear h0 hfit hfe hft hsz hgen hs2 hg2 HS1 HB1 HZ
  obtain ⟨a1, a2, a3, c1, c2, c3, rfl, -⟩ := hbo.at_.form
  clear hbo
  have HB3 := hidIt (HB2.out.trans (Below.mono (bgrow w2 (.cells #[.slice a1 bs.prems.length c1, .slice a2 bs.rules.length c2, .slice a3 bs.proms.length c3] 26)) HB2.out.size))
  have HV3 := hidIt (HV2.out.below (bgrow w2 (.cells #[.slice a1 bs.prems.length c1, .slice a2 bs.rules.length c2, .slice a3 bs.proms.length c3] 26)))
  have HK3 := hidIt (heap_alloc_new w2 (.cells #[.slice a1 bs.prems.length c1, .slice a2 bs.rules.length c2, .slice a3 bs.proms.length c3] 26))
  clear HB2 HV2
  go_wp2_with fail
  generalize (w2.alloc (.cells #[.slice a1 bs.prems.length c1, .slice a2 bs.rules.length c2, .slice a3 bs.proms.length c3] 26)) = w3 at *
  generalize w2.heap.size = B1 at *
  refine (HF.out _ _ (HE.out.go HB3.out) HV3.out).mono ?_
  rintro e w4 ⟨rfl, hb4⟩
  have HB4 := hidIt (HB3.out.trans (Below.mono hb4 HB3.out.size))
  have HV4 := hidIt (HV3.out.below hb4)
  have HK4 := hidIt (blk_kept2 HK3.out hb4)
  clear hb4 HB3 HV3 HK3
  go_wp2_with fail
  refine (HP.out _ (HE.out.go HB4.out)).mono ?_
  rintro e w5 ⟨v2, rfl, hv2, hb5⟩
  have HB5 := hidIt (HB4.out.trans (Below.mono hb5 HB4.out.size))
  have HV5 := hidIt (HV4.out.below hb5)
  have HK5 := hidIt (blk_kept2 HK4.out hb5)
  have HU5 := hidIt hv2
  obtain ⟨d1, d2, d3, e1, e2, e3, rfl, -⟩ := hv2.form
  clear hb5 HB4 HV4 HK4 hv2
  have hgr := bgrow w5 (.cells #[.slice d1 bs.prems.length e1, .slice d2 bs.rules.length e2, .slice d3 bs.proms.length e3] 26)
  have HB6 := hidIt (HB5.out.trans (Below.mono hgr HB5.out.size))
  have HV6 := hidIt (HV5.out.below hgr)
  have HU6 := hidIt (HU5.out.below hgr)
  have HK6 := hidIt (blk_kept2 HK5.out hgr)
  have HL6 := hidIt (heap_alloc_new w5 (.cells #[.slice d1 bs.prems.length e1, .slice d2 bs.rules.length e2, .slice d3 bs.proms.length e3] 26))
  clear hgr HB5 HV5 HU5 HK5
  go_wp2_with fail
  generalize (w5.alloc (.cells #[.slice d1 bs.prems.length e1, .slice d2 bs.rules.length e2, .slice d3 bs.proms.length e3] 26)) = w6 at *
  generalize w5.heap.size = B2 at *
  obtain ⟨k0, k1, k2⟩ := bcell3 HK6.out
  obtain ⟨l0, l1, l2⟩ := bcell3 HL6.out
  have lk := lt_of_block HK6.out
  have ll := lt_of_block HL6.out
  have K0 := fun y => Ext.cell k0 y
  have K1 := fun y => Ext.cell k1 y
  have K2 := fun y => Ext.cell k2 y
  have L0 := fun y => Ext.cell l0 y
  have L1 := fun y => Ext.cell l1 y
  have L2 := fun y => Ext.cell l2 y
  have LK := fun y : In (Ext w6) => Nat.lt_of_lt_of_le lk (Below.size y.h)
  have LL := fun y : In (Ext w6) => Nat.lt_of_lt_of_le ll (Below.size y.h)
  have hs1 : IntKind.i64.wrap ((bs.prems.length : Int) + (bs.rules.length : Int)) = (bs.prems.length : Int) + (bs.rules.length : Int) := by rw [IntKind.wrap_i64]; omega
  have hs2 : IntKind.i64.wrap ((bs.prems.length : Int) + (bs.rules.length : Int) + (bs.proms.length : Int)) = (bs.prems.length : Int) + (bs.rules.length : Int) + (bs.proms.length : Int) := by rw [IntKind.wrap_i64]; omega
  haveI := Ext.nonempty w6
  refine wp_region_in (Ext w6) (by kernel_rfl) (by kernel_rfl) (Ext.start w6) ?_
  repeat (go_big_quiet_step (first | (go_at_call 31; refine Ext.call (r5same_true bs _ _ _ (HV6.out.below (In.h _)) (HU6.out.below (In.h _)))) | (go_at_call 37; refine Ext.call (HC.out _))))
  refine wpQuiet_nil ?_
  rintro w7 ⟨⟨_, h7⟩, rfl⟩
  have HB7 : Hid (Below w.heap.size w w7) := HB6.out.trans (Below.mono h7 HB6.out.size)
  clear h7 K0 K1 K2 L0 L1 L2 LK LL k0 k1 k2 l0 l1 l2 lk ll hs1 hs2 HB6 HV6 HU6 HK6 HL6 HC HF HP hn1 hn2 hn3
  have HPAR : Hid (∀ wx, EnvOk wx → Calls Tryz.prog 35 #[.string s] wx fun e w' => ∃ v : Value, e = .returned (.tuple #[v, .int .i64 ((parse5 s).2.1 : Int), .int .i64 (parse5 s).2.2]) ∧ BaseAt w' v (parse5 s).1 ∧ Below wx.heap.size wx w') := fun wx hx => bparse_any s hs wx hx
  have HFZ : Hid ((parse5 s).2.2 = 0 → ∀ wx v, EnvOk wx → BaseAt wx v (parse5 s).1 → Calls Tryz.prog 28 #[v] wx fun e w' => e = .returned (.tuple #[.string s, .int .i64 0]) ∧ Below wx.heap.size wx w') := fun h wx v hx hv => by
    obtain ⟨f1, f2, f3⟩ := text_parse5 h
    have := bformat_any (parse5 s).1 (baseE_fit f3).ok v wx hv hx.words
    rw [f1, f2] at this
    exact this
  generalize (parse5 s).1 = D at *
  generalize (parse5 s).2.1 = m at *
  generalize (parse5 s).2.2 = z at *
  go_wp2_with fail
  refine (HPAR.out _ (HE.out.go HB7.out)).mono ?_
  rintro e w8 ⟨v3, rfl, hv3, hb8⟩
  have HB8 := hidIt (HB7.out.trans (Below.mono hb8 HB7.out.size))
  have HV8 := hidIt hv3
  obtain ⟨g1, g2, g3, j1, j2, j3, rfl, -⟩ := hv3.form
  clear hb8 hv3 HPAR HB7
  have hgr := bgrow w8 (.cells #[.slice g1 D.prems.length j1, .slice g2 D.rules.length j2, .slice g3 D.proms.length j3] 26)
  have HB9 := hidIt (HB8.out.trans (Below.mono hgr HB8.out.size))
  have HV9 := hidIt (HV8.out.below hgr)
  have HK9 := hidIt (heap_alloc_new w8 (.cells #[.slice g1 D.prems.length j1, .slice g2 D.rules.length j2, .slice g3 D.proms.length j3] 26))
  clear hgr HB8 HV8
  obtain ⟨q0, q1, q2⟩ := bcell3 HK9.out
  have lq := lt_of_block HK9.out
  by_cases hz : z = 0
  · subst hz
    go_wp2_with fail
    generalize (w8.alloc (.cells #[.slice g1 D.prems.length j1, .slice g2 D.rules.length j2, .slice g3 D.proms.length j3] 26)) = w9 at *
    refine (HFZ.out (by trivial) _ _ (HE.out.go HB9.out) HV9.out).mono ?_
    rintro e w10 ⟨rfl, hb10⟩
    have HB10 := hidIt (HB9.out.trans (Below.mono hb10 HB9.out.size))
    clear hb10
    go_wp2_with fail
    refine (awake5_any _ (HE.out.go HB10.out)).mono ?_
    rintro e w11 ⟨rfl, hb11⟩
    have HB11 := hidIt (HB10.out.trans (Below.mono hb11 HB10.out.size))
    clear hb11
    go_wp2_with fail
    go_ret
    exact ⟨rfl, HB11.out⟩
  · have hzb : (z == 0) = false := beq_eq_false_iff_ne.2 hz
    go_wp2_with fail
    generalize (w8.alloc (.cells #[.slice g1 D.prems.length j1, .slice g2 D.rules.length j2, .slice g3 D.proms.length j3] 26)) = w9 at *
    refine (awake5_any _ (HE.out.go HB9.out)).mono ?_
    rintro e w11 ⟨rfl, hb11⟩
    have HB11 := hidIt (HB9.out.trans (Below.mono hb11 HB9.out.size))
    clear hb11
    go_wp2_with fail
    go_ret
    exact ⟨rfl, HB11.out⟩
end Go.Proofs.YthdlmmikgpkfhaaGreatDoor
