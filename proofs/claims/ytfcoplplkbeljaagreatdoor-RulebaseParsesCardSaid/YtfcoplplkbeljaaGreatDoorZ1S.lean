/- The examples of chapter 5, in plain words. The examples of chapter 5 hold in whatever memory. -/
import Derived.Test.YtfcoplplkbeljaaGreatDoorZ1N
import Derived.Test.YtfcoplplkbeljaaGreatDoorZ1D

namespace Go.Proofs.YtfcoplplkbeljaaGreatDoor
set_option linter.unusedVariables false
set_option linter.unusedSimpArgs false
open Go Go.RowKit

def sampleA : List UInt8 := [97, 120, 105, 111, 109, 32, 112, 10, 112, 114, 101, 109, 105, 115, 101, 32, 113, 32, 51, 32, 102, 114, 111, 109, 32, 97, 110, 110, 10, 115, 116, 114, 105, 99, 116, 32, 115, 49, 58, 32, 112, 44, 32, 113, 32, 45, 62, 32, 114, 10, 114, 117, 108, 101, 32, 100, 49, 32, 50, 58, 32, 114, 32, 61, 62, 32, 126, 116, 10, 112, 114, 111, 109, 111, 116, 101, 32, 100, 49, 32, 53, 32, 105, 102, 32, 113, 10]
def sampleT : ByteArray := ⟨#[97, 120, 105, 111, 109, 32, 112, 10, 112, 114, 101, 109, 105, 115, 101, 32, 113, 32, 51, 32, 102, 114, 111, 109, 32, 97, 110, 110, 10, 115, 116, 114, 105, 99, 116, 32, 115, 49, 58, 32, 112, 44, 32, 113, 32, 45, 62, 32, 114, 10, 114, 117, 108, 101, 32, 100, 49, 32, 50, 58, 32, 114, 32, 61, 62, 32, 126, 116, 10, 112, 114, 111, 109, 111, 116, 101, 32, 100, 49, 32, 53, 32, 105, 102, 32, 113, 10]⟩
def sampleB : Bs := ⟨[⟨⟨false, ⟨#[112]⟩⟩, 1, 0, ⟨#[]⟩⟩, ⟨⟨false, ⟨#[113]⟩⟩, 2, 3, ⟨#[97, 110, 110]⟩⟩], [⟨⟨#[115, 49]⟩, true, 0, [⟨false, ⟨#[112]⟩⟩, ⟨false, ⟨#[113]⟩⟩], ⟨false, ⟨#[114]⟩⟩⟩, ⟨⟨#[100, 49]⟩, false, 2, [⟨false, ⟨#[114]⟩⟩], ⟨true, ⟨#[116]⟩⟩⟩], [⟨⟨#[100, 49]⟩, 5, ⟨false, ⟨#[113]⟩⟩⟩]⟩
def text2 : ByteArray := ⟨#[115, 116, 114, 105, 99, 116, 32, 115, 58, 32, 113, 44, 32, 112, 32, 45, 62, 32, 114, 10]⟩
def text3 : ByteArray := ⟨#[97, 120, 105, 111, 109, 32, 112, 10, 114, 117, 108, 101, 32, 100, 32, 49, 50, 58, 32, 61, 62, 32, 112, 10]⟩
theorem base_sample : baseE sampleB = 0 := by rw [baseE5_eq]; kernel_rfl
theorem parse_sample : parse5 sampleT = (sampleB, 0, 0) := by
  have h1 : linesE (sampleT.size + 1) 1 ⟨[], [], []⟩ sampleT = (sampleB, 0) := by kernel_rfl
  unfold parse5
  rw [if_neg (by decide), h1]
  unfold parse5a
  rw [if_neg (by decide), if_neg (by rw [base_sample]; decide)]
def base2 : Bs := (linesE (text2.size + 1) 1 ⟨[], [], []⟩ text2).1
theorem parse_text2 : (parse5 text2).2 = (0, 8) := by
  have h1 : (linesE (text2.size + 1) 1 ⟨[], [], []⟩ text2).2 = 0 := by kernel_rfl
  have h2 : baseE (linesE (text2.size + 1) 1 ⟨[], [], []⟩ text2).1 = 8 := by rw [baseE5_eq]; kernel_rfl
  unfold parse5
  rw [if_neg (by decide)]
  unfold parse5a
  rw [h1, h2, if_neg (by decide), if_pos (by decide)]
theorem parse_text3 : (parse5 text3).2 = (2, 3) := by kernel_rfl
theorem fmt_sample : fmtE5 sampleB = 0 ∧ fmtT5 sampleB = sampleT := by
  have ht : textL sampleB = sampleT := by kernel_rfl
  have he : fmtE5 sampleB = 0 := by
    unfold fmtE5
    rw [if_pos base_sample, ht]
    rfl
  exact ⟨he, by unfold fmtT5; rw [if_pos he, ht]⟩
theorem find_sample : posI (hasName ⟨#[100, 49]⟩) sampleB.rules = 1 := by kernel_rfl
end Go.Proofs.YtfcoplplkbeljaaGreatDoor

namespace Go.Proofs.YtfcoplplkbeljaaGreatDoor
set_option linter.unusedVariables false
set_option linter.unusedSimpArgs false
open Go Go.RowKit

set_option maxRecDepth 100000 in
set_option maxHeartbeats 4000000 in
theorem awake5_any (w : World) (hE : EnvOk w) :
    Calls Tryz.prog 19 #[] w fun e w' => e = .returned (.bool true) ∧ Below w.heap.size w w' := by
  have HE := hidIt hE
  have HP1 : Hid (∀ wx, EnvOk wx → Calls Tryz.prog 16 #[.string sampleT] wx fun e w' => ∃ v : Value, e = .returned (.tuple #[v, .int .i64 0, .int .i64 0]) ∧ BaseAt w' v sampleB ∧ Below wx.heap.size wx w') := fun wx hx => by
    have := bparse_any sampleT (by decide) wx hx
    rw [parse_sample] at this
    exact this
  have HP2 : Hid (∀ wx, EnvOk wx → Calls Tryz.prog 16 #[.string text2] wx fun e w' => ∃ v : Value, e = .returned (.tuple #[v, .int .i64 0, .int .i64 8]) ∧ BaseAt w' v (parse5 text2).1 ∧ Below wx.heap.size wx w') := fun wx hx => by
    have := bparse_any text2 (by decide) wx hx
    rw [parse_text2] at this
    exact this
  have HP3 : Hid (∀ wx, EnvOk wx → Calls Tryz.prog 16 #[.string text3] wx fun e w' => ∃ v : Value, e = .returned (.tuple #[v, .int .i64 2, .int .i64 3]) ∧ BaseAt w' v (parse5 text3).1 ∧ Below wx.heap.size wx w') := fun wx hx => by
    have := bparse_any text3 (by decide) wx hx
    rw [parse_text3] at this
    exact this
  have hbok : BsOk sampleB := by
    have : ∀ n : Nat, n ≤ 12 → n ≤ maxLen := fun n h => by unfold maxLen; omega
    refine ⟨fun p hp => ?_, fun p hp => ?_, fun p hp => ?_⟩
    · simp only [sampleB, List.mem_cons, List.not_mem_nil, or_false] at hp
      rcases hp with rfl | rfl
      · exact ⟨this _ (by decide), this _ (by decide), ⟨by decide, by decide⟩, ⟨by decide, by decide⟩⟩
      · exact ⟨this _ (by decide), this _ (by decide), ⟨by decide, by decide⟩, ⟨by decide, by decide⟩⟩
    · simp only [sampleB, List.mem_cons, List.not_mem_nil, or_false] at hp
      rcases hp with rfl | rfl
      · refine ⟨this _ (by decide), ⟨by decide, by decide⟩, this _ (by decide), fun x hx => ?_⟩
        simp only [List.mem_cons, List.not_mem_nil, or_false] at hx
        rcases hx with rfl | rfl <;> exact this _ (by decide)
      · refine ⟨this _ (by decide), ⟨by decide, by decide⟩, this _ (by decide), fun x hx => ?_⟩
        simp only [List.mem_cons, List.not_mem_nil, or_false] at hx
        rcases hx with rfl <;> exact this _ (by decide)
    · simp only [sampleB, List.mem_cons, List.not_mem_nil, or_false] at hp
      rcases hp with rfl
      exact ⟨this _ (by decide), ⟨by decide, by decide⟩, this _ (by decide)⟩
  have HF : Hid (∀ wx v, EnvOk wx → BaseAt wx v sampleB → Calls Tryz.prog 57 #[v] wx fun e w' => e = .returned (.tuple #[.string ⟨#[97, 120, 105, 111, 109, 32, 112, 10, 112, 114, 101, 109, 105, 115, 101, 32, 113, 32, 51, 32, 102, 114, 111, 109, 32, 97, 110, 110, 10, 115, 116, 114, 105, 99, 116, 32, 115, 49, 58, 32, 112, 44, 32, 113, 32, 45, 62, 32, 114, 10, 114, 117, 108, 101, 32, 100, 49, 32, 50, 58, 32, 114, 32, 61, 62, 32, 126, 116, 10, 112, 114, 111, 109, 111, 116, 101, 32, 100, 49, 32, 53, 32, 105, 102, 32, 113, 10]⟩, .int .i64 0]) ∧ Below wx.heap.size wx w') := fun wx v hx hv => by
    have := bformat_any sampleB hbok v wx hv hx.words
    rw [fmt_sample.1, fmt_sample.2] at this
    exact this
  have HFI : Hid (∀ wx v, BaseAt wx v sampleB → Calls Tryz.prog 58 #[v, .string ⟨#[100, 49]⟩] wx fun e w' => e = .returned (.int .i64 1) ∧ Below wx.heap.size wx w') := fun wx v hv => by
    have := bfind_any sampleB v ⟨#[100, 49]⟩ wx hv
    rw [find_sample] at this
    exact this
  clear hE hbok
  go_enter Tryz.func19, Tryz.ntmps19
  go_wp2_with fail
  refine (HP1.out _ HE.out).mono ?_
  rintro e w1 ⟨v1, rfl, hv1, hb1⟩
  obtain ⟨a1, a2, a3, c1, c2, c3, rfl, -⟩ := hv1.form
  have HB1 := hidIt (hb1.trans (Below.mono (bgrow w1 (.cells #[.slice a1 sampleB.prems.length c1, .slice a2 sampleB.rules.length c2, .slice a3 sampleB.proms.length c3] 32)) hb1.size))
  have HV1 := hidIt (hv1.below (bgrow w1 (.cells #[.slice a1 sampleB.prems.length c1, .slice a2 sampleB.rules.length c2, .slice a3 sampleB.proms.length c3] 32)))
  have HK1 := hidIt (heap_alloc_new w1 (.cells #[.slice a1 sampleB.prems.length c1, .slice a2 sampleB.rules.length c2, .slice a3 sampleB.proms.length c3] 32))
  clear hv1 hb1
  go_wp2_with fail
  generalize (w1.alloc (.cells #[.slice a1 sampleB.prems.length c1, .slice a2 sampleB.rules.length c2, .slice a3 sampleB.proms.length c3] 32)) = w2 at *
  generalize w1.heap.size = B1 at *
  refine (HF.out _ _ (HE.out.go HB1.out) HV1.out).mono ?_
  rintro e w3 ⟨rfl, hb3⟩
  have HB3 := hidIt (HB1.out.trans (Below.mono hb3 HB1.out.size))
  have HV3 := hidIt (HV1.out.below hb3)
  have HK3 := hidIt (blk_kept2 HK1.out hb3)
  clear hb3 HB1 HV1 HK1
  go_wp2_with fail
  refine (HP2.out _ (HE.out.go HB3.out)).mono ?_
  rintro e w4 ⟨v2, rfl, hv2, hb4⟩
  have HB4 := hidIt (HB3.out.trans (Below.mono hb4 HB3.out.size))
  have HV4 := hidIt (HV3.out.below hb4)
  have HK4 := hidIt (blk_kept2 HK3.out hb4)
  generalize hq2 : (parse5 text2).1 = Q2 at hv2
  clear hq2 hb4 HB3 HV3 HK3
  obtain ⟨d1, d2, d3, e1, e2, e3, rfl, -⟩ := hv2.form
  have HB5 := hidIt (HB4.out.trans (Below.mono (bgrow w4 (.cells #[.slice d1 Q2.prems.length e1, .slice d2 Q2.rules.length e2, .slice d3 Q2.proms.length e3] 32)) HB4.out.size))
  have HV5 := hidIt (HV4.out.below (bgrow w4 (.cells #[.slice d1 Q2.prems.length e1, .slice d2 Q2.rules.length e2, .slice d3 Q2.proms.length e3] 32)))
  have HK5 := hidIt (blk_kept2 HK4.out (bgrow w4 (.cells #[.slice d1 Q2.prems.length e1, .slice d2 Q2.rules.length e2, .slice d3 Q2.proms.length e3] 32)))
  clear hv2 HB4 HV4 HK4
  go_wp2_with fail
  generalize (w4.alloc (.cells #[.slice d1 Q2.prems.length e1, .slice d2 Q2.rules.length e2, .slice d3 Q2.proms.length e3] 32)) = w5 at *
  refine (HP3.out _ (HE.out.go HB5.out)).mono ?_
  rintro e w6 ⟨v3, rfl, hv3, hb6⟩
  have HB6 := hidIt (HB5.out.trans (Below.mono hb6 HB5.out.size))
  have HV6 := hidIt (HV5.out.below hb6)
  have HK6 := hidIt (blk_kept2 HK5.out hb6)
  generalize hq3 : (parse5 text3).1 = Q3 at hv3
  clear hq3 hb6 HB5 HV5 HK5
  obtain ⟨g1, g2, g3, f1, f2, f3, rfl, -⟩ := hv3.form
  have HB7 := hidIt (HB6.out.trans (Below.mono (bgrow w6 (.cells #[.slice g1 Q3.prems.length f1, .slice g2 Q3.rules.length f2, .slice g3 Q3.proms.length f3] 32)) HB6.out.size))
  have HV7 := hidIt (HV6.out.below (bgrow w6 (.cells #[.slice g1 Q3.prems.length f1, .slice g2 Q3.rules.length f2, .slice g3 Q3.proms.length f3] 32)))
  have HK7 := blk_kept2 HK6.out (bgrow w6 (.cells #[.slice g1 Q3.prems.length f1, .slice g2 Q3.rules.length f2, .slice g3 Q3.proms.length f3] 32))
  obtain ⟨k0, k1, k2⟩ := bcell3 HK6.out
  have lk := lt_of_block HK6.out
  clear hv3 HB6 HV6 HK6
  have hl2 : sampleB.rules.length = 2 := rfl
  go_wp2_with fail
  refine (HFI.out _ _ HV7.out).mono ?_
  rintro e w8 ⟨rfl, hb8⟩
  have HB8 := hidIt (HB7.out.trans (Below.mono hb8 HB7.out.size))
  clear hb8
  go_wp2_with fail
  go_ret
  exact ⟨rfl, HB8.out⟩
end Go.Proofs.YtfcoplplkbeljaaGreatDoor
