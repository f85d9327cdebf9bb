/- The law FormulaLimits: the call answers true for every number. -/
import Derived.Test.YthhhkjfdpafhaaaDoorAwake2
import Derived.Test.YthhhkjfdpafhaaaDoorQSame
namespace Go.Proofs.YthhhkjfdpafhaaaDoor
open Go.RowKit

/-- k negations of the atom a, and their text. -/
def notsT : Nat → Tree
  | 0 => .node 3 ⟨#[97]⟩ []
  | k + 1 => .node 4 ⟨#[]⟩ [notsT k]
def notsS : Nat → ByteArray
  | 0 => ⟨#[97]⟩
  | k + 1 => ⟨#[126]⟩ ++ notsS k

theorem notsS_size : ∀ k, (notsS k).size = k + 1
  | 0 => rfl
  | k + 1 => by rw [notsS, ByteArray.size_append, notsS_size k]; show 1 + _ = _; omega
theorem nots_nodes : ∀ k, (notsT k).nodes = k + 1
  | 0 => rfl
  | k + 1 => by simp only [notsT, Tree.nodes, nodesL, nots_nodes k]; omega

theorem five {n : Nat} (h : 18 ≤ n) (h' : n < 23) : n = 18 ∨ n = 19 ∨ n = 20 ∨ n = 21 ∨ n = 22 := by omega
theorem lim_yes {n : Nat} (h : 18 ≤ n) (h' : n ≤ 20) : parseT (notsS n) = (notsT n, 0, 0) ∧ fmtT (notsT n) = notsS n ∧ fmtI (notsT n) = 0 ∧ (notsT n).depth = n := by
  rcases five h (by omega) with rfl | rfl | rfl | rfl | rfl
  · exact ⟨by kernel_rfl, by kernel_rfl, by kernel_rfl, by kernel_rfl⟩
  · exact ⟨by kernel_rfl, by kernel_rfl, by kernel_rfl, by kernel_rfl⟩
  · exact ⟨by kernel_rfl, by kernel_rfl, by kernel_rfl, by kernel_rfl⟩
  · omega
  · omega
theorem lim_no {n : Nat} (h : 20 < n) (h' : n < 23) : parseT (notsS n) = (zeroT, 0, 2) ∧ valE (notsT n) = 2 := by
  rcases five (by omega) h' with rfl | rfl | rfl | rfl | rfl
  · omega
  · omega
  · omega
  · exact ⟨by kernel_rfl, by kernel_rfl⟩
  · exact ⟨by kernel_rfl, by kernel_rfl⟩

theorem mod_five (x : Int) (hx : I64 x) (w : World) :
    Calls Tryd.prog 23 #[.int .i64 x, .int .i64 5] w fun e w' => ∃ m : Nat, e = .returned (.int .i64 (m : Int)) ∧ m < 5 ∧ w = w' :=
  (mod_any x 5 hx.1 hx.2 (by omega) (by omega) w).mono fun e w' ⟨he, hw⟩ => by
    have hb := modI_bd x 5 (by omega)
    refine ⟨(modI x 5).toNat, ?_, by omega, hw⟩
    rw [he]
    exact ret_int (by omega)

set_option maxRecDepth 100000 in
set_option maxHeartbeats 2000000 in
theorem limits_walk (x : Int) (w : World) (hx : I64 x) (hsg : SignsAt w) : Calls Tryd.prog 9 #[.int .i64 x] w fun e w' => e = .returned (.bool true) ∧ Below w.heap.size w w' := by
  have HSG := hidIt hsg
  have HX := hidIt hx
  clear hsg hx
  go_enter Tryd.func9, Tryd.ntmps9
  go_wp2_with fail
  refine (mod_five x HX.out w).mono ?_
  rintro e w' ⟨m, rfl, hm, rfl⟩
  clear HX
  go_wp2_with fail
  go_loopw [4, 5] (fun s i wr => ∃ (k : Nat) (op : Int) (nm : ByteArray) (a : Option Addr) (n c : Nat), k ≤ 18 + m ∧ i = .int .i64 k ∧ s = .string (notsS k) ∧ Hid (wr.heap[w.heap.size]? = some (.cells #[.int .i64 op, .string nm, .slice a n c] 24 (0, 0))) ∧ Hid (FormIn wr (fun i => w.heap.size + 1 ≤ i) (.agg #[.int .i64 op, .string nm, .slice a n c]) (notsT k)) ∧ Hid (Below w.heap.size w wr)) (fun _ i _ => 18 + m - (intOf i).toNat)
  case atStart => exact ⟨0, 3, ⟨#[97]⟩, none, 0, 0, Nat.zero_le _, rfl, rfl, heap_alloc_new w _, FormIn.mk (FormsIn.nil none) rfl (by unfold I64; omega) (by unfold maxLen; decide) (Nat.le_refl _) (Nat.zero_le _), (Below.refl _ _).alloc (Nat.le_refl _) _⟩
  case round =>
    obtain ⟨k, op, nm, a, n, c, hk, rfl, rfl, hF, hform, hbel⟩ := hrel
    obtain ⟨p0, p1, p2⟩ := cell_of3 hF.out
    obtain ⟨q0, q1, q2⟩ := cells_free hF.out
    have hlt := lt_of_block hF.out
    have hsz := notsS_size k
    have HS := hidIt hsz
    have hsz' : (notsS k).size ≤ 1000 := by omega
    clear hsz
    by_cases hlt2 : k < 18 + m
    · go_wp2_with fail
      go_roundw
      case rel =>
        have hg : wr.grownBy ((((wr.setCell ⟨w.heap.size, 0, none⟩ (.int .i64 4)).setCell ⟨w.heap.size, 1, none⟩ (.string ⟨#[]⟩)).setCell ⟨w.heap.size, 2, none⟩ (.slice (some ⟨wr.heap.size, 0, none⟩) 1 1)).alloc (.cells #[.int .i64 op, .string nm, .slice a n c] 24)) (some w.heap.size) := only_alloc (set_three _ _ _ _ _) _
        have hF' := hF.out
        have hnew := FormIn.mk (op := 4) (name := ⟨#[]⟩) (n := 1) (cap := 1) (FormsIn.one (S := fun i => w.heap.size + 1 ≤ i) (heap_alloc_at (w := ((wr.setCell ⟨w.heap.size, 0, none⟩ (.int .i64 4)).setCell ⟨w.heap.size, 1, none⟩ (.string ⟨#[]⟩)).setCell ⟨w.heap.size, 2, none⟩ (.slice (some ⟨wr.heap.size, 0, none⟩) 1 1)) (o := .cells #[.int .i64 op, .string nm, .slice a n c] 24) (n := wr.heap.size) (by simp [World.setCell])) (by omega) (hform.out.over (w1 := w) hg (by omega))) rfl (i64_small (by omega) (by omega)) nil_le (Nat.le_refl _) (by unfold maxLen; simp)
        refine ⟨k + 1, 4, ⟨#[]⟩, some ⟨wr.heap.size, 0, none⟩, 1, 1, by omega, by go_num, by simp [notsS], ?_, hnew, ?_⟩
        · show _ = _
          rw [Below.heap_alloc _ _ _ (by simp [World.setCell]; omega), setCell_heap_self (setCell_heap_self (setCell_heap_self hF' _) _) _]
          rfl
        · exact below_of_only (b := w.heap.size) (only_new (only_of_below hbel.out _) hg (Nat.le_refl _)) (Nat.le_refl _)
      case measure => simp [intOf]; omega
    · obtain rfl : k = 18 + m := by omega
      have HFF := hidIt hform.out.free
      by_cases hn : 20 < 18 + m
      · obtain ⟨h1, h2⟩ := lim_no hn (by omega)
        have H2 := hidIt h2
        have HP := hidIt (parse_at (notsS (18 + m)) (by unfold maxLen; omega) zeroT 0 2 h1 wr (HSG.out.go hbel.out))
        have hn' : (20 : Int) < 18 + (m : Int) := by omega
        clear h1 h2 hn
        go_wp2_with fail
        refine HP.out.mono ?_
        rintro e w3 ⟨a3, c3, rfl, hf3, hb3⟩
        have e1 : zeroT.op = 0 := rfl
        have e2 : zeroT.name = ⟨#[]⟩ := rfl
        have e3 : zeroT.args.length = 0 := rfl
        rw [e1, e2, e3]
        have HB3 := hidIt (hbel.out.trans (hb3.mono hbel.out.size))
        have HK3 := hidIt (blk_kept hF.out hb3)
        have HF3 := hidIt (HFF.out.go hb3)
        clear p0 p1 p2 q0 q1 q2 hlt hb3 hf3 e1 e2 e3
        obtain ⟨p0, p1, p2⟩ := cell_of3 HK3.out
        have hlt := lt_of_block HK3.out
        go_wp2_with fail
        refine (validate_any (notsT (18 + m)) _ _ (HF3.out.go ((Below.refl _ _).alloc (Nat.le_refl _) _))).mono ?_
        rintro e w4 ⟨rfl, hb4⟩
        rw [H2.out]
        have HB4 := hidIt (HB3.out.trans ((below_box hb4).mono HB3.out.size))
        clear hb4
        go_wp2_with fail
        refine (awake2_any w4 (HSG.out.go HB4.out)).mono ?_
        rintro e w5 ⟨rfl, hb5⟩
        have HB5 := hidIt (HB4.out.trans (hb5.mono HB4.out.size))
        clear hb5
        go_wp2_with fail
        go_ret
        exact ⟨rfl, HB5.out⟩
      · obtain ⟨h1, h2, h3, h4⟩ := lim_yes (n := 18 + m) (by omega) (by omega)
        have H2 := hidIt h2
        have H3 := hidIt h3
        have H4 := hidIt h4
        have HP := hidIt (parse_at (notsS (18 + m)) (by unfold maxLen; omega) (notsT (18 + m)) 0 0 h1 wr (HSG.out.go hbel.out))
        have hn' : decide ((20 : Int) < 18 + (m : Int)) = false := by simp; omega
        have hnodes := nots_nodes (18 + m)
        have HN := hidIt hnodes
        have heq : ((notsS (18 + m)).toList == (notsS (18 + m)).toList) = true := beq_self_eq_true _
        clear h1 h2 h3 h4 hn hnodes
        generalize notsT (18 + m) = t at *
        go_wp2_with fail
        refine HP.out.mono ?_
        rintro e w3 ⟨a3, c3, rfl, hf3, hb3⟩
        have HB3 := hidIt (hbel.out.trans (hb3.mono hbel.out.size))
        have HK3 := hidIt (blk_kept hF.out hb3)
        have HF3 := hidIt (HFF.out.go hb3)
        have HG3 := hidIt hf3.free
        clear p0 p1 p2 q0 q1 q2 hlt hb3 hf3
        obtain ⟨p0, p1, p2⟩ := cell_of3 HK3.out
        have hlt := lt_of_block HK3.out
        go_wp2_with fail
        refine (fformat_any t _ _ (HF3.out.go ((Below.refl _ _).alloc (Nat.le_refl _) _))).mono ?_
        rintro e w4 ⟨rfl, hb4⟩
        rw [H2.out, H3.out]
        have HB4 := hidIt (HB3.out.trans ((below_box hb4).mono HB3.out.size))
        have HK4 := hidIt (blk_kept HK3.out (below_box hb4))
        have HF4 := hidIt (HF3.out.go (below_box hb4))
        have HG4 := hidIt (HG3.out.go (below_box hb4))
        have HL4 := hidIt (laid_box hb4)
        clear p0 p1 p2 hlt hb4
        obtain ⟨p0, p1, p2⟩ := cell_of3 HK4.out
        have hlt := lt_of_block HK4.out
        obtain ⟨l0, l1, l2⟩ := cell_of3 HL4.out
        have hlt2 := lt_of_block HL4.out
        go_wp2_with fail
        refine (qsame_true t _ _ w4 HF4.out HG4.out).mono ?_
        rintro e w5 ⟨rfl, hb5⟩
        have HB5 := hidIt (HB4.out.trans (hb5.mono HB4.out.size))
        have HL5 := hidIt (blk_kept HL4.out hb5)
        have HG5 := hidIt (HG4.out.go hb5)
        clear p0 p1 p2 hlt l0 l1 l2 hlt2 hb5
        obtain ⟨l0, l1, l2⟩ := cell_of3 HL5.out
        have hlt2 := lt_of_block HL5.out
        go_wp2_with fail
        refine (depth_any t _ w5 HG5.out (by rw [HN.out]; omega)).mono ?_
        rintro e w6 ⟨rfl, hb6⟩
        rw [H4.out]
        have HB6 := hidIt (HB5.out.trans (hb6.mono HB5.out.size))
        have hdd : (((18 + m : Nat) : Int) == 18 + (m : Int)) = true := by simp
        clear hb6
        go_wp2_with fail
        refine (awake2_any w6 (HSG.out.go HB6.out)).mono ?_
        rintro e w7 ⟨rfl, hb7⟩
        have HB7 := hidIt (HB6.out.trans (hb7.mono HB6.out.size))
        clear hb7
        go_wp2_with fail
        go_ret
        exact ⟨rfl, HB7.out⟩
end Go.Proofs.YthhhkjfdpafhaaaDoor
