/- The reference's Format. -/
import Derived.Test.YtpiiadmjddikfaaDoorRefF
import Derived.Test.YtpiiadmjddikfaaDoorRefW
import Derived.Test.YtpiiadmjddikfaaDoorFFormat
namespace Go.Proofs.YtpiiadmjddikfaaDoor
set_option linter.unusedVariables false
set_option linter.unusedSimpArgs false
open Go Go.RowKit

set_option maxHeartbeats 400000 in
theorem qformat_any (t : Tree) (v : Value) (w : World) (h : FormAt w none v t) (hn : t.nodes ≤ 1000000000) :
    Calls Tryd.prog 11 #[v] w fun e w' => e = .returned (.tuple #[.string (fmtT t), .int .i64 (fmtI t)]) ∧ Below w.heap.size w w' := by
  obtain ⟨a, cap, b, off, rfl, hop, hname, hlen, hcap, -, -⟩ := h.form
  have H := hidIt (h.go ((Below.refl _ _).alloc (Nat.le_refl _) (.cells #[.int .i64 t.op, .string t.name, .slice a t.args.length cap] 24)))
  have HN := hidIt hn
  clear h hn
  by_cases hv : valE t = 0
  · obtain ⟨h1, -, h3, h4⟩ := valE_zero hv
    have HT := hidIt (qtext_any t h3 h4 h1)
    have hsz := textB_size t h4
    have HV := hidIt hv
    by_cases hl : 4096 < (textB t).size
    · have HI : Hid (fmtI t = 2) := by show _ = _; unfold fmtI; rw [if_pos hv, if_pos hl]
      have HE : Hid (fmtT t = ⟨#[]⟩) := by show _ = _; unfold fmtT; rw [HI.out]; rfl
      have hl' : (4096 : Int) < ((textB t).size : Int) := by omega
      clear hv h3 h4 hl
      go_enter Tryd.func11, Tryd.ntmps11
      go_wp2_with fail
      refine (qvalidate_any t _ _ H.out HN.out).mono ?_
      rintro e w' ⟨rfl, hb⟩
      rw [HV.out]
      have HB := hidIt (below_box hb)
      obtain ⟨p0, p1, p2⟩ := cell_of3 (laid_box hb)
      have hsz : w.heap.size < w'.heap.size := lt_of_block (laid_box hb)
      have HF := hidIt (H.out.go hb)
      clear hb
      go_wp2_with fail
      refine (HT.out _ _ HF.out).mono ?_
      rintro e w2 ⟨rfl, hb2⟩
      have HB2 := hidIt (HB.out.trans (hb2.mono HB.out.size))
      clear hb2
      go_wp2_with fail
      go_ret2
      exact ⟨ret_two (congrArg Value.string HE.out.symm) (congrArg (Value.int .i64) HI.out.symm), HB2.out⟩
    · have HI : Hid (fmtI t = 0) := by show _ = _; unfold fmtI; rw [if_pos hv, if_neg hl]
      have HE : Hid (fmtT t = textB t) := by show _ = _; unfold fmtT; rw [HI.out]; rfl
      have hl' : decide ((4096 : Int) < ((textB t).size : Int)) = false := by simp; omega
      clear hv h3 h4
      go_enter Tryd.func11, Tryd.ntmps11
      go_wp2_with fail
      refine (qvalidate_any t _ _ H.out HN.out).mono ?_
      rintro e w' ⟨rfl, hb⟩
      rw [HV.out]
      have HB := hidIt (below_box hb)
      obtain ⟨p0, p1, p2⟩ := cell_of3 (laid_box hb)
      have hsz : w.heap.size < w'.heap.size := lt_of_block (laid_box hb)
      have HF := hidIt (H.out.go hb)
      clear hb
      go_wp2_with fail
      refine (HT.out _ _ HF.out).mono ?_
      rintro e w2 ⟨rfl, hb2⟩
      have HB2 := hidIt (HB.out.trans (hb2.mono HB.out.size))
      clear hb2
      go_wp2_with fail
      go_ret2
      exact ⟨ret_two (congrArg Value.string HE.out.symm) (congrArg (Value.int .i64) HI.out.symm), HB2.out⟩
  · have HI : Hid (fmtI t = valE t) := by show _ = _; unfold fmtI; rw [if_neg hv]
    have HE : Hid (fmtT t = ⟨#[]⟩) := by show _ = _; unfold fmtT; rw [HI.out, if_neg hv]
    have hz : (valE t == 0) = false := by simp [hv]
    have hz2 : (valE t != 0) = true := by simp [hv]
    have hr := valE_range t
    have HR := hidIt hr
    clear hr
    go_enter Tryd.func11, Tryd.ntmps11
    go_wp2_with fail
    refine (qvalidate_any t _ _ H.out HN.out).mono ?_
    rintro e w' ⟨rfl, hb⟩
    have HB := hidIt (below_box hb)
    clear hb
    go_wp2_with fail
    go_ret2
    exact ⟨ret_two (congrArg Value.string HE.out.symm) (congrArg (Value.int .i64) HI.out.symm), HB.out⟩
end Go.Proofs.YtpiiadmjddikfaaDoor
