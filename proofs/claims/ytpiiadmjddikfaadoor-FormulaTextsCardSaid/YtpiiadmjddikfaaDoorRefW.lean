/- The reference's Validate. -/
import Derived.Test.YtpiiadmjddikfaaDoorRefS
import Derived.Test.YtpiiadmjddikfaaDoorWithin
namespace Go.Proofs.YtpiiadmjddikfaaDoor
set_option linter.unusedVariables false
set_option linter.unusedSimpArgs false
open Go.RowKit

set_option maxRecDepth 100000 in
set_option maxHeartbeats 1000000 in
theorem qvalidate_any (t : Tree) (v : Value) (w : World) (h : FormAt w none v t) (hn : t.nodes ≤ 1000000000) :
    Calls Tryd.prog 17 #[v] w fun e w' => e = .returned (.int .i64 (valE t)) ∧ Below w.heap.size w w' := by
  obtain ⟨a, cap, b, off, rfl, hop, hname, hlen, hcap, -, -⟩ := h.form
  have H := hidIt (h.go ((Below.refl _ _).alloc (Nat.le_refl _) (.cells #[.int .i64 t.op, .string t.name, .slice a t.args.length cap] 24)))
  have HN := hidIt hn
  have HD := hidIt (depth_lt_nodes t)
  clear h hn
  by_cases g1 : 600 < t.nodes
  · have HV : Hid (valE t = 2) := by show _ = _; simp [valE, fitsAt]; omega
    have g1' : (600 : Int) < (t.nodes : Int) := by omega
    clear g1
    go_enter Tryd.func17, Tryd.ntmps17
    go_wp2_with fail
    refine (qsize_any t _ _ H.out HN.out).mono ?_
    rintro e w' ⟨rfl, hb⟩
    have HB := hidIt (below_box hb)
    clear hb
    go_wp2_with fail
    go_ret
    exact ⟨ret_int HV.out.symm, HB.out⟩
  have g1' : (t.nodes : Int) ≤ 600 := by omega
  by_cases g2 : 20 < t.depth
  · have HV : Hid (valE t = 2) := by show _ = _; simp [valE, fitsAt]; omega
    have g2' : (20 : Int) < (t.depth : Int) := by omega
    clear g1 g2
    go_enter Tryd.func17, Tryd.ntmps17
    go_wp2_with fail
    refine (qsize_any t _ _ H.out HN.out).mono ?_
    rintro e w' ⟨rfl, hb⟩
    have HB := hidIt (below_box hb)
    obtain ⟨p0, p1, p2⟩ := cell_of3 (laid_box hb)
    have hsz : w.heap.size < w'.heap.size := lt_of_block (laid_box hb)
    have HF := hidIt (H.out.go hb)
    clear hb
    go_wp2_with fail
    refine (qdepth_any t _ _ HF.out HN.out).mono ?_
    rintro e w2 ⟨rfl, hb2⟩
    have HB2 := hidIt (HB.out.trans (hb2.mono HB.out.size))
    clear hb2
    go_wp2_with fail
    go_ret
    exact ⟨ret_int HV.out.symm, HB2.out⟩
  have g2' : (t.depth : Int) ≤ 20 := by omega
  have HV : Hid (valE t = if t.all kindB then (if t.all nameB then 0 else 3) else 4) := by
    show _ = _
    have : fitsAt 0 0 t = true := by simp [fitsAt]; omega
    simp [valE, this]
  clear g1 g2
  go_enter Tryd.func17, Tryd.ntmps17
  go_wp2_with fail
  refine (qsize_any t _ _ H.out HN.out).mono ?_
  rintro e w' ⟨rfl, hb⟩
  have HB := hidIt (below_box hb)
  have K1 := laid_box hb
  obtain ⟨p0, p1, p2⟩ := cell_of3 K1
  have hsz : w.heap.size < w'.heap.size := lt_of_block K1
  have HF := hidIt (H.out.go hb)
  have HK1 := hidIt K1
  clear hb K1
  go_wp2_with fail
  refine (qdepth_any t _ _ HF.out HN.out).mono ?_
  rintro e w2 ⟨rfl, hb2⟩
  have HB2 := hidIt (HB.out.trans (hb2.mono HB.out.size))
  have HF2 := hidIt (HF.out.go hb2)
  have K2 := blk_kept HK1.out hb2
  clear p0 p1 p2 hsz
  obtain ⟨p0, p1, p2⟩ := cell_of3 K2
  have hsz : w.heap.size < w2.heap.size := lt_of_block K2
  have HK2 := hidIt K2
  clear hb2 K2
  go_wp2_with fail
  refine (qkinds_any t _ _ HF2.out).mono ?_
  rintro e w3 ⟨rfl, hb3⟩
  have HB3 := hidIt (HB2.out.trans (hb3.mono HB2.out.size))
  have HF3 := hidIt (HF2.out.go hb3)
  have K3 := blk_kept HK2.out hb3
  clear p0 p1 p2 hsz
  obtain ⟨p0, p1, p2⟩ := cell_of3 K3
  have hsz : w.heap.size < w3.heap.size := lt_of_block K3
  clear hb3 K3
  cases h2 : t.all kindB
  · have H2 := hidIt h2
    clear h2
    go_wp2_with fail
    go_ret
    exact ⟨ret_int (by rw [HV.out, H2.out]; rfl), HB3.out⟩
  have H2 := hidIt h2
  clear h2
  go_wp2_with fail
  refine (qnames_any t _ _ HF3.out).mono ?_
  rintro e w4 ⟨rfl, hb4⟩
  have HB4 := hidIt (HB3.out.trans (hb4.mono HB3.out.size))
  clear hb4
  cases h3 : t.all nameB
  · have H3 := hidIt h3
    clear h3
    go_wp2_with fail
    go_ret
    exact ⟨ret_int (by rw [HV.out, H2.out, H3.out]; rfl), HB4.out⟩
  · have H3 := hidIt h3
    clear h3
    go_wp2_with fail
    go_ret
    exact ⟨ret_int (by rw [HV.out, H2.out, H3.out]; rfl), HB4.out⟩
end Go.Proofs.YtpiiadmjddikfaaDoor
