/- The reference's Sets: all sets of a few nodes. -/
import Derived.Test.YtihmdnbeonefcaaDoorZ4I
import Derived.Test.YtihmdnbeonefcaaDoorG1Dl

namespace Go.Proofs.YtihmdnbeonefcaaDoor
set_option linter.unusedVariables false
set_option linter.unusedSimpArgs false
open Go Go.RowKit Go.Sort

/-- Has the number the bit? -/
def tb (m i : Nat) : Bool := bits .and .i64 ((m : Int) / 2 ^ i) 1 == 1
theorem tb_zero (i : Nat) : tb 0 i = false := by
  unfold tb
  rw [show ((0 : Nat) : Int) / 2 ^ i = 0 from Int.zero_ediv _]
  rfl
/-- All sets of n nodes. -/
def setsL (n : Nat) : List (List Int) := (List.range (2 ^ n)).map fun m => setL n (tb m)
def setsTo (n m : Nat) : List (List Int) := (List.range m).map fun m => setL n (tb m)
theorem setsTo_step (n m : Nat) : setsTo n (m + 1) = setsTo n m ++ [setL n (tb m)] := by
  unfold setsTo
  rw [List.range_succ, List.map_append]
  rfl
theorem setsTo_len (n m : Nat) : (setsTo n m).length = m := by simp [setsTo]
theorem setsL_len (n : Nat) : (setsL n).length = 2 ^ n := by simp [setsL]
theorem setsL_get {n : Nat} {m : Nat} (h : m < (setsL n).length) : (setsL n)[m] = setL n (tb m) := by simp [setsL]
theorem setsL_set {n : Nat} {m : Nat} (h : m < (setsL n).length) : setB n (setsL n)[m] = true := by rw [setsL_get]; exact setB_setL n _

set_option maxRecDepth 100000 in
set_option maxHeartbeats 4000000 in
theorem rlSets_any (n : Nat) (hn : n ≤ 10) (w : World) :
    Calls Tryd.prog 41 #[.int .i64 (n : Int)] w fun e w' => ∃ (a : Option Addr) (c : Nat), e = .returned (.slice a (2 ^ n) c) ∧ LL w' (.slice a (2 ^ n) c) (setsL n) ∧ Below w.heap.size w w' := by
  obtain ⟨K, hK⟩ : ∃ K, K = 2 ^ n := ⟨_, rfl⟩
  have HK := hidIt hK
  have hKI : (2 : Int) ^ n = (K : Int) := by rw [hK]; exact (Int.natCast_pow 2 n).symm ▸ rfl
  have hK1 : K ≤ 1024 := by rw [hK]; exact Nat.pow_le_pow_right (by decide) hn
  have hw1 : IntKind.i64.wrap (2 ^ n) = (K : Int) := by rw [hKI]; exact IntWalk.i64_in _ (by omega)
  have hmn : min n 64 = n := by omega
  have hu : IntKind.u64.wrap (n : Int) = (n : Int) := by rw [show IntKind.u64.wrap (n : Int) = (n : Int) % 18446744073709551616 from IntKind.wrap_u64 _]; omega
  rw [← hK]
  clear hK
  go_enter Tryd.func41, Tryd.ntmps41
  go_wp2_with fail
  go_loopw [3, 4, 5, 6] (fun v3 v4 _ _ wr => ∃ (m : Nat) (a : Option Addr) (c : Nat), m ≤ K ∧ v4 = .int .i64 m ∧ v3 = .slice a m c ∧ Hid (OwnLL wr w.heap.size (.slice a m c) (setsTo n m)) ∧ Hid (Below w.heap.size w wr)) (fun _ v4 _ _ _ => K - (intOf v4).toNat)
  case atStart => exact ⟨0, none, 0, Nat.zero_le _, (by first | rfl | trivial), (by first | rfl | trivial), OwnLL.nil _ _, Below.refl _ _⟩
  case round =>
    obtain ⟨m, a, c, hm, rfl, rfl, HL, HB⟩ := hrel
    have hm0 : (0 : Int) ≤ (m : Int) := by omega
    have hnn : (0 : Int) ≤ (n : Int) := by omega
    by_cases hlt : m < K
    · have hmI : (m : Int) < (K : Int) := by omega
      obtain ⟨wi, hwi⟩ : ∃ wi, wi = wr := ⟨_, rfl⟩
      subst hwi
      go_wp2_with fail
      go_loopw [5, 6] (fun v5 v6 wr => ∃ (i l : Nat) (b : Option Addr) (d : Nat), i ≤ n ∧ v6 = .int .i64 i ∧ v5 = .slice b l d ∧ Hid (l = (setTo (tb m) i).length) ∧ Hid (OwnI wr wi.heap.size (.slice b l d) (ints (setTo (tb m) i))) ∧ Hid (Below wi.heap.size wi wr)) (fun _ v6 _ => n - (intOf v6).toNat)
      case atStart => exact ⟨0, 0, none, 0, Nat.zero_le _, (by first | rfl | trivial), (by first | rfl | trivial), (rfl : 0 = (setTo (tb m) 0).length), OwnI.nil _ _, Below.refl _ _⟩
      case round =>
        obtain ⟨i, l, b, d, hi, rfl, rfl, HLI, HO, HBi⟩ := hrel
        have hi0 : (0 : Int) ≤ (i : Int) := by omega
        by_cases hin : i < n
        · have hiI : (i : Int) < (n : Int) := by omega
          have HST := hidIt (setTo_step (tb m) i)
          have hl5 : l ≤ i := by rw [HLI.out]; exact setTo_len _ _
          have hmi : min i 64 = i := by omega
          have hui : IntKind.u64.wrap (i : Int) = (i : Int) := by rw [IntKind.wrap_u64]; omega
          cases htb : tb m i
          · rw [htb, if_neg (by decide), List.append_nil] at HST
            have hb : (bits .and .i64 ((m : Int) / 2 ^ i) 1 == 1) = false := htb
            clear htb
            go_wp2_with fail
            go_roundw
            case rel => exact ⟨i + 1, l, b, d, by omega, by go_num, (by first | rfl | trivial), (by rw [HST.out]; exact HLI.out), (by rw [HST.out]; exact HO.out), HBi.out⟩
            case measure => simp [intOf]; omega
          · rw [htb, if_pos rfl] at HST
            have hb : (bits .and .i64 ((m : Int) / 2 ^ i) 1 == 1) = true := htb
            clear htb
            have HTL : Hid ((ints (setTo (tb m) i)).length = l) := by show _ = _; rw [ints_len]; exact HLI.out.symm
            have HO7 := hidIt (HO.out.news HTL.out (.cells #[.int .i64 (i : Int)] 3))
            have HB7 := hidIt (HBi.out.trans (Below.mono (bgrow wr (.cells #[.int .i64 (i : Int)] 3)) HBi.out.size))
            have hsz7 : wi.heap.size ≤ (wr.alloc (.cells #[.int .i64 (i : Int)] 3)).heap.size := HB7.out.size
            go_wp2_with (at_builtin; refine Hid.out ?_)
            refine hidIt ?_
            refine wpList_append_kb rfl _ _ elemI rfl wi.heap.size (.slice b l d) l _ rfl HO7.out _ 1 rfl #[.int .i64 (i : Int)] 3 (heap_alloc_new _ _) rfl (one_of (by rfl)) (by omega) hsz7 ?_
            intro g8 c8 w8 hown8 hg8 hbl8
            have HB8 := hidIt (below_app5 HB7.out hg8 (fun g e => (owns_blk HO7.out g e).1) hsz7)
            have HO8 : Hid (OwnI w8 wi.heap.size (.slice (some ⟨g8, 0, none⟩) (l + 1) c8) (ints (setTo (tb m) (i + 1)))) := by
              have := OwnI.done HTL.out hown8
              show OwnI _ _ _ _
              rw [HST.out]
              unfold ints at this ⊢
              rw [List.map_append]
              exact this
            have HL8 : Hid (l + 1 = (setTo (tb m) (i + 1)).length) := by show _ = _; rw [HST.out, List.length_append, ← HLI.out]; rfl
            clear hown8 hg8 hbl8 HO7 HB7 hsz7 HO HBi hb
            go_wp2_with fail
            go_roundw
            case rel => exact ⟨i + 1, l + 1, some ⟨g8, 0, none⟩, c8, by omega, by go_num, (by first | rfl | trivial), HL8.out, HO8.out, HB8.out⟩
            case measure => simp [intOf]; omega
        · obtain rfl : i = n := by omega
          have hiI : ¬ (i : Int) < (i : Int) := by omega
          have hgr5 := bgrow wr (.cells #[.slice b l d] 22)
          have HO5 : Hid (OwnI (wr.alloc (.cells #[.slice b l d] 22)) w.heap.size (.slice b l d) (setL i (tb m))) := (HO.out.go hgr5).base (B' := w.heap.size) HB.out.size
          have hb5 : Below wi.heap.size wi (wr.alloc (.cells #[.slice b l d] 22)) := HBi.out.trans (Below.mono hgr5 HBi.out.size)
          have HL5 := hidIt (HL.out.go hb5)
          have HB5 := hidIt (HB.out.trans (Below.mono hb5 HB.out.size))
          have hsz5 : w.heap.size ≤ (wr.alloc (.cells #[.slice b l d] 22)).heap.size := HB5.out.size
          obtain ⟨vals, hv1, hv2, hv3⟩ := HL5.out
          have HV1 : Hid (World.ownsRow (wr.alloc (.cells #[.slice b l d] 22)) w.heap.size 22 1 (.slice a m c) m vals) := by
            rw [setsTo_len] at hv1
            exact hv1
          have HV2 := hidIt hv2
          have HV3 := hidIt hv3
          clear hgr5 hb5 hv1 hv2 hv3 HBi HO HL
          go_wp2_with (at_builtin; refine Hid.out ?_)
          refine hidIt ?_
          refine wpList_append_kb rfl (.tmp 29) (.tmp 31) elemLL rfl w.heap.size (.slice a m c) m _ rfl HV1.out _ 1 rfl #[.slice b l d] 22 (heap_alloc_new _ _) rfl (one_of (by rfl)) (by omega) hsz5 ?_
          intro g6 c6 w6 hown6 hg6 hbl6
          have HB6 := hidIt (below_app5 HB5.out hg6 (fun g e => (owns_blk HV1.out g e).1) hsz5)
          have HO6 : Hid (OwnLL w6 w.heap.size (.slice (some ⟨g6, 0, none⟩) (m + 1) c6) (setsTo i (m + 1))) := by
            have := OwnLL.app HL5.out HO5.out vals (by rw [setsTo_len]; exact HV1.out) HV2.out HV3.out (by rw [setsTo_len]; exact hown6) hg6
            show OwnLL _ _ _ _
            rw [setsTo_step]
            exact this
          clear hown6 hg6 hbl6 HV1 HV2 HV3 HO5 HL5 HB5 hsz5
          go_wp2_with fail
          go_roundw
          case rel => exact ⟨m + 1, some ⟨g6, 0, none⟩, c6, by omega, by go_num, (by first | rfl | trivial), HO6.out, HB6.out⟩
          case measure => simp [intOf]; omega
    · obtain rfl : m = K := by omega
      have hmI : ¬ (m : Int) < (m : Int) := by omega
      have HF : Hid (LL wr (.slice a m c) (setsL n)) := by
        have h := HL.out.ll
        show LL _ _ _
        have e : setsTo n m = setsL n := by unfold setsTo setsL; rw [HK.out]
        rwa [e] at h
      go_wp2_with fail
      go_ret
      exact ⟨a, c, rfl, HF.out, HB.out⟩
end Go.Proofs.YtihmdnbeonefcaaDoor
