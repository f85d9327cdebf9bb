/- The chapter's examples (awake): the call answers true, in whatever memory: the walk. -/
import Derived.Test.YtbldlngblmegfaaAwake
import Derived.Deep.RegionHeld3
namespace Go.Proofs.Ytbldlngblmegfaa
open Go.RowKit Go.Sort

set_option maxHeartbeats 1000000 in
set_option maxRecDepth 100000 in
theorem awake_any (w : World) : Calls Try.prog 20 #[] w fun e w' => e = .returned (.bool true) ∧ Below w.heap.size w w' := by
  go_enter Try.func20, Try.ntmps20
  go_wp2_with fail
  refine (parse_awake _).mono ?_
  rintro e w1 ⟨rfl, hb1⟩
  obtain ⟨k1, k2, k3, hz, hB⟩ := three_laid hb1
  clear hb1
  have KB := hidIt hB
  clear hB
  have c10 := cell_two0 k1
  have c11 := cell_two1 k1
  have c20 := cell_two0 k2
  have c21 := cell_two1 k2
  have c30 := cell_two0 k3
  have c31 := cell_two1 k3
  have K1 := hidIt k1
  have K2 := hidIt k2
  have K3 := hidIt k3
  clear k1 k2 k3
  have hz1 : w.heap.size + 1 < w1.heap.size := by omega
  have hz0 : w.heap.size < w1.heap.size := by omega
  go_wp2_with fail
  refine (normal_awake (w1.heap.size + 1) _ (two_new w1 _ _)).mono ?_
  rintro e w2 ⟨g, cap, rfl, n0, n1, hg, hb2⟩
  have hB2 := below_of_two hb2
  have k1 := block_kept K1.out hB2
  have k2 := block_kept K2.out hB2
  have k3 := block_kept K3.out hB2
  have hZ := hB2.size
  have KB2 := hidIt (KB.out.trans (hB2.mono (by omega)))
  clear c10 c11 c20 c21 c30 c31 hb2 hB2 KB K1 K2 K3
  have c10 := cell_two0 k1
  have c11 := cell_two1 k1
  have c20 := cell_two0 k2
  have c21 := cell_two1 k2
  have c30 := cell_two0 k3
  have c31 := cell_two1 k3
  have K1 := hidIt k1
  have K2 := hidIt k2
  have K3 := hidIt k3
  clear k1 k2 k3
  have hz2 : w.heap.size + 1 + 1 < w2.heap.size := by omega
  have hz1 : w.heap.size + 1 < w2.heap.size := by omega
  have hz0 : w.heap.size < w2.heap.size := by omega
  have hS : AwS w g w2 := ⟨K1.out, K2.out, K3.out, n0, n1, hg, KB2.out⟩
  clear K1 K2 K3 KB2 n0 n1 hg hz hZ hz0 hz1 hz2 c10 c11 c20 c21 c30 c31
  go_wp2_with fail
  have e1 : cmpI ⟨false, ⟨#[112]⟩⟩ ⟨true, ⟨#[112]⟩⟩ = -1 := awake_cmp1
  have e2 : cmpI ⟨true, ⟨#[112]⟩⟩ ⟨false, ⟨#[113]⟩⟩ = -1 := awake_cmp2
  go_region_held3 (fun w' => w'.cell? ⟨w.heap.size, 0, none⟩ = some (.bool false) ∧ w'.cell? ⟨w.heap.size, 1, none⟩ = some (.string ⟨#[112]⟩) ∧ w'.cell? ⟨w.heap.size + 1, 0, none⟩ = some (.bool true) ∧ w'.cell? ⟨w.heap.size + 1, 1, none⟩ = some (.string ⟨#[112]⟩) ∧ w'.cell? ⟨w.heap.size + 1 + 1, 0, none⟩ = some (.bool false) ∧ w'.cell? ⟨w.heap.size + 1 + 1, 1, none⟩ = some (.string ⟨#[113]⟩) ∧ w'.cell? ⟨g, 0, none⟩ = some (.bool true) ∧ w'.cell? ⟨g, 1, none⟩ = some (.string ⟨#[112]⟩) ∧ Hid (AwS w g w'))
    (first
      | exact hS.drew.all
      | exact hs'.all
      | (go_split_ands; exact (AwS.alloc (Hid.out (by assumption)) _).all))
    (first
      | (go_at_call 16; refine (fmt_aw w _ g ?_).mono ?_; (go_split_ands; exact Hid.out (by assumption)); rintro e w' ⟨rfl, hs'⟩)
      | (go_at_call 31; refine (cons_aw w _ g ?_).mono ?_; (go_split_ands; exact Hid.out (by assumption)); rintro e w' ⟨rfl, hs'⟩)
      | (go_at_call 23; refine (cmp_aw w _ g _ _ _ _ ?_).mono ?_; (go_split_ands; exact Hid.out (by assumption)); rintro e w' ⟨rfl, hs'⟩))
  go_wp2
  go_ret
  exact ⟨rfl, hs'.bel⟩
end Go.Proofs.Ytbldlngblmegfaa
