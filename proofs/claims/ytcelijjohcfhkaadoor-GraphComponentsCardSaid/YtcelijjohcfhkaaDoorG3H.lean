/- The law GraphComponents: for every list of numbers it answers true. -/
import Derived.Test.YtcelijjohcfhkaaDoorG3E
import Derived.Test.YtcelijjohcfhkaaDoorG1G
import Derived.Test.YtcelijjohcfhkaaDoorG1I
import Derived.Test.YtcelijjohcfhkaaDoorNew
import Derived.BigQuiet
namespace Go.Proofs.YtcelijjohcfhkaaDoor
set_option linter.unusedVariables false
set_option linter.unusedSimpArgs false
open Go Go.RowKit Go.Sort

/-- The number of a node's component. -/
def idxF (l : List (BitVec 64)) (i : Nat) : Nat := l.findIdx fun c => c.getLsbD i
theorem idx_at {N : Nat} {ps : List (Int × Int)} {l : List (BitVec 64)} (h : CompL N ps l) {i : Nat} (hi : i < N) : ∃ hl : idxF l i < l.length, (l[idxF l i]'hl).getLsbD i = true := by
  obtain ⟨c, hc, hci⟩ := h.all i hi
  have hl : idxF l i < l.length := List.findIdx_lt_length_of_exists ⟨c, hc, hci⟩
  exact ⟨hl, List.findIdx_getElem (w := hl)⟩
theorem idx_of {N : Nat} {ps : List (Int × Int)} {l : List (BitVec 64)} (h : CompL N ps l) {i k : Nat} (hk : k < l.length) (hx : l[k].getLsbD i = true) : idxF l i = k := by
  have hi := h.lt l[k] (List.getElem_mem hk) i hx
  obtain ⟨hl, h2⟩ := idx_at h hi
  exact h.uniq hl hk h2 hx
def memK (l : List (BitVec 64)) (k : Nat) : List Nat := members (l.getD k 0#64)
/-- What has been laid when q nodes of component k have been gone through. -/
def atK (l : List (BitVec 64)) (k q i : Nat) : Int := if idxF l i < k ∨ (idxF l i = k ∧ i ∈ (memK l k).take q) then (idxF l i : Int) else -1
theorem memK_get {l : List (BitVec 64)} {k : Nat} (hk : k < l.length) : memK l k = members l[k] := by
  unfold memK
  rw [List.getD_eq_getElem?_getD, List.getElem?_eq_getElem hk]; rfl
theorem memK_nodup (l : List (BitVec 64)) (k : Nat) : (memK l k).Nodup := by
  rw [List.nodup_iff_pairwise_ne]
  exact (members_up _).imp fun {a b} h => by omega
section
variable {N : Nat} {ps : List (Int × Int)} {l : List (BitVec 64)} (h : CompL N ps l)
include h
theorem memK_lt {k : Nat} (hk : k < l.length) : ∀ x ∈ memK l k, x < N ∧ idxF l x = k := fun x hx => by
  rw [memK_get hk] at hx
  have h2 := (mem_members.1 hx).2
  exact ⟨h.lt _ (List.getElem_mem hk) x h2, idx_of h hk h2⟩
theorem atK_old {k q : Nat} (hk : k < l.length) (hq : q < (memK l k).length) : atK l k q (memK l k)[q] = -1 := by
  have h2 := (memK_lt h hk _ (List.getElem_mem hq)).2
  unfold atK
  rw [if_neg]
  rintro (h3 | ⟨-, h3⟩)
  · omega
  · have hnd := memK_nodup l k
    obtain ⟨j, hj, he⟩ := List.getElem_of_mem h3
    rw [List.length_take] at hj
    rw [List.getElem_take] at he
    have := (List.nodup_iff_pairwise_ne.1 hnd)
    have := List.pairwise_iff_getElem.1 this j q (by omega) hq (by omega)
    exact this he
theorem atK_step {k q : Nat} (hk : k < l.length) (hq : q < (memK l k).length) : updI (atK l k q) (memK l k)[q] (k : Int) = atK l k (q + 1) := by
  have h2 := (memK_lt h hk _ (List.getElem_mem hq)).2
  funext i
  unfold updI
  by_cases e : i = (memK l k)[q]
  · rw [if_pos e]
    have hm : i ∈ (memK l k).take (q + 1) := by
      rw [List.take_succ_eq_append_getElem hq, e]
      exact List.mem_append_right _ (List.mem_singleton.2 rfl)
    unfold atK
    rw [if_pos (.inr ⟨by rw [e]; exact h2, hm⟩), e, h2]
  · rw [if_neg e]
    unfold atK
    rw [List.take_succ_eq_append_getElem hq]
    have : (i ∈ (memK l k).take q ++ [(memK l k)[q]]) ↔ i ∈ (memK l k).take q := by
      rw [List.mem_append, List.mem_singleton]
      exact ⟨fun hh => hh.elim id (fun hh => absurd hh e), .inl⟩
    simp only [this]
theorem atK_row {k i : Nat} (hk : k < l.length) (hi : i < N) : atK l k (memK l k).length i = atK l (k + 1) 0 i := by
  obtain ⟨hl, hx⟩ := idx_at h hi
  unfold atK
  rw [List.take_length, List.take_zero]
  by_cases e : idxF l i = k
  · have hm : i ∈ memK l k := by
      rw [memK_get hk]
      refine mem_members.2 ⟨?_, ?_⟩
      · exact Nat.lt_of_not_le fun hge => by
          rw [BitVec.getLsbD_of_ge _ _ hge] at hx; cases hx
      · have : l[idxF l i]'hl = l[k] := by congr 1
        rw [← this]; exact hx
    rw [if_pos (.inr ⟨e, hm⟩), if_pos (.inl (by omega))]
  · by_cases e2 : idxF l i < k
    · rw [if_pos (.inl e2), if_pos (.inl (by omega))]
    · rw [if_neg (fun h3 => by rcases h3 with h3 | ⟨h3, -⟩ <;> omega), if_neg (fun h3 => by
        rcases h3 with h3 | ⟨-, h3⟩
        · omega
        · cases h3)]
theorem atK_end {i : Nat} (hi : i < N) : atK l l.length 0 i = (idxF l i : Int) := by
  obtain ⟨hl, -⟩ := idx_at h hi
  unfold atK
  rw [if_pos (.inl hl)]
theorem idx_same (hok : GOk (N : Int) ps) {i k : Nat} (hi : i < N) (hk : k < N) : (decide ((k : Int) ∈ reachL (N : Int) ps (i : Int)) && decide ((i : Int) ∈ reachL (N : Int) ps (k : Int))) = decide (idxF l i = idxF l k) := by
  rw [Bool.eq_iff_iff, Bool.and_eq_true, decide_eq_true_eq, decide_eq_true_eq, decide_eq_true_eq, reach_mem i k hi hk, reach_mem k i hk hi]
  obtain ⟨hl, hx⟩ := idx_at h hi
  obtain ⟨hl2, hx2⟩ := idx_at h hk
  rw [← h.same hok (List.getElem_mem hl) hx]
  constructor
  · intro e
    exact (idx_of h hl e).symm
  · intro e
    have : l[idxF l i]'hl = l[idxF l k]'hl2 := by congr 1
    rw [this]; exact hx2
theorem idx_fwd (hok : GOk (N : Int) ps) {x y : Nat} (he : ((x : Int), (y : Int)) ∈ ps) : idxF l x ≤ idxF l y := by
  have h1 := hok.ix _ he
  simp only at h1
  obtain ⟨hl, hx⟩ := idx_at h (i := x) (by omega)
  obtain ⟨hl2, hx2⟩ := idx_at h (i := y) (by omega)
  exact h.fwd hok hl hl2 hx hx2 he
end
theorem IntsIn.congr {w : World} {b n : Nat} {f g : Nat → Int} (h : IntsIn w b n f) (he : ∀ i, i < n → f i = g i) : IntsIn w b n g := by
  have e : (List.range n).map (fun i => Value.int .i64 (f i)) = (List.range n).map (fun i => Value.int .i64 (g i)) := List.map_congr_left fun i hi => by rw [he i (List.mem_range.1 hi)]
  unfold IntsIn cellsI at *
  rw [h, e]
theorem IntsIn.go {w w' : World} {b n : Nat} {f : Nat → Int} (h : IntsIn w b n f) (hb : Below w.heap.size w w') : IntsIn w' b n f := blk_kept2 h hb
theorem ne_of_cell {w : World} {F n b off : Nat} {f : Nat → Int} {v : Value} (h : IntsIn w F n f) (hc : w.cell? ⟨b, off, none⟩ = some v) (hv : ∀ j, j < n → v ≠ .int .i64 (f j)) : b ≠ F := fun e => by
  subst e
  unfold IntsIn at h
  simp only [World.cell?, h] at hc
  by_cases ho : off < n
  · rw [cellsI_get ho] at hc
    injection hc with hc
    exact hv off ho hc.symm
  · rw [Array.getElem?_eq_none (by rw [cellsI_size]; omega)] at hc
    cases hc
theorem below_drewNC (n m : Nat) (w : World) : Below n w (w.drewN m) := ⟨rfl, rfl, rfl, Nat.le_refl _, fun _ _ => rfl⟩
theorem below_readC {w a a' : World} {b : Nat} (h : Below b w a) (hg : a.grownBy a' (some b)) (hna : b ≤ a.heap.size) : Below b w a' := below_app5 h hg (fun g e => by injection e with e; omega) hna

set_option maxRecDepth 100000 in
set_option maxHeartbeats 2000000 in
theorem components_walk (lv : Value) (zs : List Int) (w : World) (hz : IntsAt w w.heap.size lv zs) (hT : Tab w) :
    Calls Tryd.prog 4 #[lv] w fun e w' => e = .returned (.bool true) ∧ Below w.heap.size w w' := by
  have HT := hidIt hT
  have HZ := hidIt hz
  clear hz hT
  go_enter Tryd.func4, Tryd.ntmps4
  go_wp2_with fail
  refine (new_any lv zs w.heap.size w HZ.out (Nat.le_refl _)).mono ?_
  rintro e w1 ⟨zs', rfl, hs1, o1, rfl⟩
  have HS1 := hidIt hs1
  have HB1 := hidIt (bgrow w o1)
  have hsz1 : w.heap.size < (w.alloc o1).heap.size := hs1.lt
  clear hs1
  generalize w.alloc o1 = w1 at *
  go_wp2_with fail
  refine (kGraph_any 10 (by decide) _ _ _ _ w1 HS1.out).mono ?_
  rintro e w2 ⟨N, ps, ga, gc, k2, rfl, hN, hok, hpl, hop, hs2, hg2⟩
  have HOK := hidIt hok
  have HPL := hidIt hpl
  have hgr := bgrow w2 (.cells #[.int .i64 (N : Int), .slice ga ps.length gc] 24)
  have HP3 := hidIt ((hop.below hgr).lits)
  have HX3 := hidIt (heap_alloc_new w2 (.cells #[.int .i64 (N : Int), .slice ga ps.length gc] 24))
  have HB2 := hidIt (below_readC HB1.out hg2 (Nat.le_of_lt hsz1))
  have HB3 := hidIt (HB2.out.trans (Below.mono hgr HB2.out.size))
  clear hok hpl hop hs2 hg2 hgr HB2 HS1 HB1
  go_upto_region 3 with (fail)
  generalize (w2.alloc (.cells #[.int .i64 (N : Int), .slice ga ps.length gc] 24)) = w3 at *
  generalize w2.heap.size = G at *
  obtain ⟨l, hco, hcl⟩ := comp_exists HOK.out
  have HCO := hidIt hco
  have HCL := hidIt hcl
  clear hco hcl
  obtain ⟨x0, x1⟩ := And.intro (cell_two0 HX3.out) (cell_two1 HX3.out)
  have lx := lt_of_block HX3.out
  have hmk := make_ints N (by omega) w3
  have hg4 := bgrow w3 (.cells (cellsI N (fun _ => 0)) 3)
  have HF4 : Hid (IntsIn (w3.alloc (.cells (cellsI N (fun _ => 0)) 3)) w3.heap.size N (fun i => if i < 0 then -1 else 0)) := heap_alloc_new w3 _
  have HX4 := hidIt (blk_kept2 HX3.out hg4)
  have HP4 := hidIt (HP3.out.below hg4)
  have HB4 := hidIt (HB3.out.trans (Below.mono hg4 HB3.out.size))
  have hG3 : G < w3.heap.size := lx
  have hP3 : w.heap.size ≤ w3.heap.size := HB3.out.size
  have HG4 : Hid (Below w3.heap.size w3 (w3.alloc (.cells (cellsI N (fun _ => 0)) 3))) := hg4
  clear hg4
  go_wp2_with fail
  clear x0 x1 lx hmk HX3 HP4 HB3
  generalize (w3.alloc (.cells (cellsI N (fun _ => 0)) 3)) = w4 at *
  generalize hFg : w3.heap.size = F at *
  have HFE := hidIt hFg
  clear hFg
  go_loopw [6, 25] (fun _ v25 wr => ∃ i : Nat, i ≤ N ∧ v25 = .int .i64 i ∧ Hid (IntsIn wr F N (fun j => if j < i then -1 else 0)) ∧ Hid (Below F w4 wr)) (fun _ v25 _ => N - (intOf v25).toNat)
  case atStart => exact ⟨0, Nat.zero_le _, (by first | rfl | trivial), HF4.out, Below.refl _ _⟩
  case round =>
    clear HF4
    obtain ⟨i, hi, rfl, HF, HBr⟩ := hrel
    have hi0 : (0 : Int) ≤ (i : Int) := by omega
    by_cases hlt : i < N
    · have hiI : (i : Int) < (N : Int) := by omega
      have hcF := HF.out.cell hlt
      have hfF := free_any HF.out i
      have hlF := lt_of_block HF.out
      have HF5 : Hid (IntsIn (wr.setCell ⟨F, i, none⟩ (.int .i64 (-1))) F N (fun j => if j < i + 1 then -1 else 0)) := (HF.out.set i (-1)).congr fun j hj => by
        show updI _ i (-1) j = if j < i + 1 then (-1 : Int) else 0
        unfold updI
        by_cases e : j = i
        · rw [if_pos e, if_pos (by omega)]
        · rw [if_neg e]
          show (if j < i then (-1 : Int) else 0) = _
          by_cases e2 : j < i
          · rw [if_pos e2, if_pos (by omega)]
          · rw [if_neg e2, if_neg (by omega)]
      have HB5 : Hid (Below F w4 (wr.setCell ⟨F, i, none⟩ (.int .i64 (-1)))) := below_set5 HBr.out (Nat.le_refl _)
      clear HF HBr
      go_wp2_with fail
      go_roundw
      case rel => exact ⟨i + 1, by omega, by go_num, HF5.out, HB5.out⟩
      case measure => simp [intOf]; omega
    · obtain rfl : i = N := by omega
      have hiI : ¬ (i : Int) < (i : Int) := by omega
      have HF5 : Hid (IntsIn wr F i (atK l 0 0)) := HF.out.congr fun j hj => by
        show (if j < i then (-1 : Int) else 0) = atK l 0 0 j
        rw [if_pos hj]
        unfold atK
        rw [if_neg (fun h => by
          rcases h with h | ⟨-, h⟩
          · omega
          · cases h)]
      have HX5 := hidIt ((HBr.out.block G hG3).trans HX4.out)
      have HB5 := hidIt (HB4.out.trans (Below.mono HBr.out hP3))
      have HBW : Hid (Below F w3 wr) := HG4.out.trans HBr.out
      have HP5 := hidIt (HP3.out.below (show Below w3.heap.size w3 wr by rw [HFE.out]; exact HBW.out))
      have HT5 := hidIt (HT.out.go HB5.out)
      clear HF HBr HG4 HX4 HB4
      generalize wr = w5 at *
      obtain ⟨x0, x1⟩ := And.intro (cell_two0 HX5.out) (cell_two1 HX5.out)
      have lx := lt_of_block HX5.out
      have hFl := lt_of_block HF5.out
      go_wp2_with fail
      refine (gComponents_any (i : Int) _ ps l w5 HP5.out HPL.out HT5.out (by rw [vN_of HOK.out, vL_of HOK.out, Int.toNat_natCast]; exact HCO.out)).mono ?_
      rintro e w6 ⟨v6, rfl, hll, hb6⟩
      have HX6 := hidIt (blk_kept2 HX5.out hb6)
      have HF6 := hidIt (HF5.out.go hb6)
      have HB6 := hidIt (HB5.out.trans (Below.mono hb6 HB5.out.size))
      have HBW6 : Hid (Below F w3 w6) := HBW.out.trans (Below.mono hb6 (Nat.le_of_lt hFl))
      obtain ⟨la, lc, rfl, hlc⟩ := hll.form
      have HLC := hidIt hlc
      have HLN := hidIt (lists_len l)
      have HL64 : Hid (∀ k, (memK l k).length ≤ 64) := fun k => members_len _
      have hlN : l.length ≤ i := by
        -- every component holds a node of its own
        have h1 := HCL.out
        refine Nat.le_of_not_lt fun hgt => ?_
        have hsub : ((List.range l.length).map fun k => k).length ≤ ((List.range i).map fun x => idxF l x).length := nodup_len _ _ (by rw [List.map_id']; exact List.nodup_range) (fun k hk => by
          rw [List.map_id', List.mem_range] at hk
          obtain ⟨j, hj⟩ := h1.ne _ (List.getElem_mem hk)
          exact List.mem_map.2 ⟨j, List.mem_range.2 (h1.lt _ (List.getElem_mem hk) j hj), idx_of h1 hk hj⟩)
        rw [List.length_map, List.length_map, List.length_range, List.length_range] at hsub
        omega
      obtain ⟨M, hM⟩ : ∃ M, M = l.length := ⟨_, rfl⟩
      have HM := hidIt hM
      rw [HLN.out, ← hM]
      rw [← hM] at hlN
      have hM10 : M ≤ 10 := by omega
      clear hll hlc hb6 HF5 HX5 HB5 HP5 HT5 HBW x0 x1 lx hM HLN
      have hFl6 := lt_of_block HF6.out
      have hFG : G ≠ F := types_ne HX6.out HF6.out (by decide)
      go_wp2_with fail
      go_loopw [7, 8, 10, 35, 42] (fun _ _ _ v35 _ wr => ∃ k : Nat, k ≤ M ∧ v35 = .int .i64 k ∧ Hid (IntsIn wr F i (atK l k 0)) ∧ Hid (w6.grownBy wr (some F))) (fun _ _ _ v35 _ _ => M - (intOf v35).toNat)
      case atStart => exact ⟨0, Nat.zero_le _, (by first | rfl | trivial), HF6.out, only_refl _ _⟩
      case round =>
        obtain ⟨k, hk, rfl, HF, HG⟩ := hrel
        have hk0 : (0 : Int) ≤ (k : Int) := by omega
        by_cases hkM : k < M
        · have hkI : (k : Int) < (M : Int) := by omega
          have hkl : k < l.length := by have := HM.out; omega
          obtain ⟨bo, oo, u, hbo, lo, cu, iu⟩ := HLC.out k (by rw [lists_len]; exact hkl)
          have hbF : bo ≠ F := by
            obtain ⟨ua, uc, rfl, -⟩ := iu.ic
            exact ne_of_cell HF6.out cu fun j hj e => by cases e
          have cu2 := (World.cell?_of_block (w := w6) (w' := wr) (a := ⟨bo, oo + k, none⟩) (HG.out.block bo lo (fun e => by injection e with e; exact hbF e))).trans cu
          have lo2 := Nat.lt_of_lt_of_le lo HG.out.size
          have hzk : (listsOf l)[k]'(by rw [lists_len]; exact hkl) = ints (memK l k) := by
            rw [memK_get hkl]; simp [listsOf]
          rw [hzk] at iu
          obtain ⟨ua, uc, rfl, hic⟩ := iu.ic
          have HIC := hidIt hic
          rw [ints_len] at cu2
          obtain ⟨LK, hLK⟩ : ∃ LK, LK = (memK l k).length := ⟨_, rfl⟩
          have HLK := hidIt hLK
          have hLK64 : LK ≤ 64 := by rw [hLK]; exact HL64.out k
          rw [← hLK] at cu2
          subst hbo
          clear cu iu hic lo hzk hLK
          go_wp2_with fail
          go_loopw [10, 42] (fun _ v42 wr => ∃ q : Nat, q ≤ LK ∧ v42 = .int .i64 q ∧ Hid (IntsIn wr F i (atK l k q)) ∧ Hid (w6.grownBy wr (some F))) (fun _ v42 _ => LK - (intOf v42).toNat)
          case atStart => exact ⟨0, Nat.zero_le _, (by first | rfl | trivial), HF.out, HG.out⟩
          case round =>
            clear HF HG cu2 lo2
            obtain ⟨q, hq, rfl, HF, HG⟩ := hrel
            have hq0 : (0 : Int) ≤ (q : Int) := by omega
            by_cases hqL : q < LK
            · have hqI : (q : Int) < (LK : Int) := by omega
              have hqm : q < (memK l k).length := by have := HLK.out; omega
              obtain ⟨b1, o1, rfl, l1, hc1⟩ := HIC.out.at_ (k := q) (by rw [ints_len]; exact hqm)
              have p0 := hc1 q (by rw [ints_len]; exact hqm)
              rw [show (ints (memK l k))[q]'(by rw [ints_len]; exact hqm) = ((memK l k)[q] : Int) by simp [ints]] at p0
              have hb1F : b1 ≠ F := ne_of_cell HF6.out p0 fun j hj e => by
                injection e with _ e
                have : atK l 0 0 j = -1 := by
                  unfold atK
                  rw [if_neg (fun h => by
                    rcases h with h | ⟨-, h⟩
                    · omega
                    · cases h)]
                omega
              have p1 := (World.cell?_of_block (w := w6) (w' := wr) (a := ⟨b1, o1 + q, none⟩) (HG.out.block b1 l1 (fun e => by injection e with e; exact hb1F e))).trans p0
              have l2 := Nat.lt_of_lt_of_le l1 HG.out.size
              have hxN := (memK_lt HCL.out hkl _ (List.getElem_mem hqm)).1
              have HOLD := hidIt (atK_old HCL.out hkl hqm)
              have HSTP := hidIt (atK_step HCL.out hkl hqm)
              generalize (memK l k)[q] = x at *
              have hx0 : ¬ (x : Int) < 0 := by omega
              have hx0' : (0 : Int) ≤ (x : Int) := by omega
              have hxI : (x : Int) < (i : Int) := by omega
              have hxI2 : ¬ (i : Int) ≤ (x : Int) := by omega
              have HXr : Hid (wr.heap[G]? = some (.cells #[.int .i64 (i : Int), .slice ga ps.length gc] 24 (0, 0))) := (HG.out.block G (lt_of_block HX6.out) (fun e => by injection e with e; exact hFG e)).trans HX6.out
              obtain ⟨x0, x1⟩ := And.intro (cell_two0 HXr.out) (cell_two1 HXr.out)
              have lx := lt_of_block HXr.out
              have hcF := HF.out.cell hxN
              rw [HOLD.out] at hcF
              have hfF := free_any HF.out x
              have hlF := lt_of_block HF.out
              have HF8 : Hid (IntsIn (wr.setCell ⟨F, x, none⟩ (.int .i64 (k : Int))) F i (atK l k (q + 1))) := by
                have h := HF.out.set x (k : Int)
                rw [HSTP.out] at h
                exact h
              have HG8 : Hid (w6.grownBy (wr.setCell ⟨F, x, none⟩ (.int .i64 (k : Int))) (some F)) := only_setCell HG.out (.inl rfl) _
              clear hc1 p0 hqm
              go_wp2_with fail
              go_roundw
              case rel => exact ⟨q + 1, by omega, by go_num, HF8.out, HG8.out⟩
              case measure => simp [intOf]; omega
            · obtain rfl : q = LK := by omega
              have hqI : ¬ (q : Int) < (q : Int) := by omega
              have HF8 : Hid (IntsIn wr F i (atK l (k + 1) 0)) := HF.out.congr fun j hj => by rw [HLK.out]; exact atK_row HCL.out hkl hj
              go_wp2_with fail
              go_roundw
              case rel => exact ⟨k + 1, by omega, by go_num, HF8.out, HG.out⟩
              case measure => simp [intOf]; omega
        · obtain rfl : k = M := by omega
          have hkI : ¬ (k : Int) < (k : Int) := by omega
          have HF7 : Hid (IntsIn wr F i (fun x => (idxF l x : Int))) := HF.out.congr fun j hj => by rw [HM.out]; exact atK_end HCL.out hj
          have hFs6 : F ≤ w6.heap.size := Nat.le_of_lt hFl6
          have HBF : Hid (Below F w6 wr) := below_readC (Below.refl F w6) HG.out hFs6
          have HP7 := hidIt (HP3.out.below (show Below w3.heap.size w3 wr by rw [HFE.out]; exact HBW6.out.trans HBF.out))
          have HB7 := hidIt (HB6.out.trans (Below.mono HBF.out hP3))
          have HX7 : Hid (wr.heap[G]? = some (.cells #[.int .i64 (i : Int), .slice ga ps.length gc] 24 (0, 0))) := (HG.out.block G (lt_of_block HX6.out) (fun e => by injection e with e; exact hFG e)).trans HX6.out
          clear HF HG HBF HBW6 HP3 HX6 HB6 HF6
          generalize wr = w7 at *
          have HRL : Hid (∀ x, (reachL (i : Int) ps (x : Int)).length ≤ 1000000) := fun x => by
            unfold reachL
            split
            · rw [ints_len]
              unfold reachN
              refine Nat.le_trans (List.length_filter_le _ _) ?_
              rw [List.length_range]; omega
            · exact Nat.zero_le _
          go_wp2_with fail
          go_loopw [11, 12, 13, 69, 79] (fun _ _ _ v69 _ wr => ∃ a : Nat, a ≤ i ∧ v69 = .int .i64 a ∧ Hid (Below w7.heap.size w7 wr)) (fun _ _ _ v69 _ _ => i - (intOf v69).toNat)
          case atStart => exact ⟨0, Nat.zero_le _, (by first | rfl | trivial), Below.refl _ _⟩
          case round =>
            obtain ⟨a, ha, rfl, HBa⟩ := hrel
            have ha0 : (0 : Int) ≤ (a : Int) := by omega
            by_cases hai : a < i
            · have haI : (a : Int) < (i : Int) := by omega
              have hca := (HF7.out.go HBa.out).cell hai
              have hlF := lt_of_block (HF7.out.go HBa.out)
              have hid0 : ¬ ((idxF l a : Nat) : Int) < 0 := by omega
              go_wp2_with fail
              clear hca hlF
              go_loopw [12, 13, 79] (fun _ _ v79 wr => ∃ b : Nat, b ≤ i ∧ v79 = .int .i64 b ∧ Hid (Below w7.heap.size w7 wr)) (fun _ _ v79 _ => i - (intOf v79).toNat)
              case atStart => exact ⟨0, Nat.zero_le _, (by first | rfl | trivial), HBa.out⟩
              case round =>
                clear HBa
                obtain ⟨b, hb, rfl, HBb⟩ := hrel
                have hb0 : (0 : Int) ≤ (b : Int) := by omega
                by_cases hbi : b < i
                · have hbI : (b : Int) < (i : Int) := by omega
                  have HSAME := hidIt (idx_same HCL.out HOK.out hai hbi)
                  have HXb := hidIt (blk_kept2 HX7.out HBb.out)
                  have HPb := hidIt (HP7.out.below HBb.out)
                  have HTb := hidIt (HT.out.go (HB7.out.trans (Below.mono HBb.out HB7.out.size)))
                  obtain ⟨x0, x1⟩ := And.intro (cell_two0 HXb.out) (cell_two1 HXb.out)
                  have lx := lt_of_block HXb.out
                  go_wp2_with fail
                  refine (gReach_any (i : Int) _ ps (a : Int) wr HPb.out HPL.out HTb.out).mono ?_
                  rw [vN_of HOK.out, vL_of HOK.out]
                  rintro e w8 ⟨v8, rfl, hi8, hb8⟩
                  have HI8 := hidIt hi8
                  obtain ⟨va, vc, rfl, -⟩ := hi8.ic
                  have HB8 := hidIt (HBb.out.trans (Below.mono hb8 HBb.out.size))
                  clear hi8 hb8 x0 x1 lx HXb HPb HTb HBb
                  have HXb := hidIt (blk_kept2 HX7.out HB8.out)
                  have HPb := hidIt (HP7.out.below HB8.out)
                  have HTb := hidIt (HT.out.go (HB7.out.trans (Below.mono HB8.out HB7.out.size)))
                  obtain ⟨x0, x1⟩ := And.intro (cell_two0 HXb.out) (cell_two1 HXb.out)
                  have lx := lt_of_block HXb.out
                  have HK1 := hidIt (kIn_any _ _ (b : Int) w8 HI8.out (HRL.out a))
                  generalize hD1 : decide ((b : Int) ∈ reachL (i : Int) ps (a : Int)) = D1 at *
                  generalize (reachL (i : Int) ps (a : Int)).length = ln1 at *
                  have ca := (HF7.out.go HB8.out).cell hai
                  have cb := (HF7.out.go HB8.out).cell hbi
                  have hlF := lt_of_block (HF7.out.go HB8.out)
                  cases D1
                  · have hne : (((idxF l a : Nat) : Int) == ((idxF l b : Nat) : Int)) = false := by
                      have h := HSAME.out
                      rw [Bool.false_and] at h
                      have := of_decide_eq_false h.symm
                      exact beq_eq_false_iff_ne.2 (by omega)
                    clear HSAME hD1
                    go_wp2_with fail
                    refine HK1.out.mono ?_
                    rintro e w9 ⟨rfl, rfl⟩
                    go_wp2_with fail
                    go_quiet (fail)
                    have HBq := hidIt (HB8.out.trans (below_drewNC _ nq _))
                    go_wp2_with fail
                    go_roundw
                    case rel => exact ⟨b + 1, by omega, by go_num, HBq.out⟩
                    case measure => simp [intOf]; omega
                  · clear hD1
                    go_wp2_with fail
                    refine HK1.out.mono ?_
                    rintro e w9 ⟨rfl, rfl⟩
                    clear ca cb hlF
                    go_wp2_with fail
                    refine (gReach_any (i : Int) _ ps (b : Int) _ HPb.out HPL.out HTb.out).mono ?_
                    rw [vN_of HOK.out, vL_of HOK.out]
                    rintro e w10 ⟨v10, rfl, hi10, hb10⟩
                    have HI10 := hidIt hi10
                    obtain ⟨va, vc, rfl, -⟩ := hi10.ic
                    have HB10 := hidIt (HB8.out.trans (Below.mono hb10 HB8.out.size))
                    have HK2 := hidIt (kIn_any _ _ (a : Int) w10 HI10.out (HRL.out b))
                    clear hi10 hb10
                    generalize hD2 : decide ((a : Int) ∈ reachL (i : Int) ps (b : Int)) = D2 at *
                    generalize (reachL (i : Int) ps (b : Int)).length = ln2 at *
                    have ca := (HF7.out.go HB10.out).cell hai
                    have cb := (HF7.out.go HB10.out).cell hbi
                    have hlF := lt_of_block (HF7.out.go HB10.out)
                    have heq : (((idxF l a : Nat) : Int) == ((idxF l b : Nat) : Int)) = D2 := by
                      have h := HSAME.out
                      rw [Bool.true_and] at h
                      rw [h]
                      rw [Bool.eq_iff_iff, beq_iff_eq, decide_eq_true_eq]
                      omega
                    have hDD : (D2 != D2) = false := bne_self_eq_false _
                    clear HSAME hD2
                    go_wp2_with fail
                    refine HK2.out.mono ?_
                    rintro e w11 ⟨rfl, rfl⟩
                    go_wp2_with fail
                    go_quiet (fail)
                    have HBq := hidIt (HB10.out.trans (below_drewNC _ nq _))
                    go_wp2_with fail
                    go_roundw
                    case rel => exact ⟨b + 1, by omega, by go_num, HBq.out⟩
                    case measure => simp [intOf]; omega
                · obtain rfl : b = i := by omega
                  have hbI : ¬ (b : Int) < (b : Int) := by omega
                  go_wp2_with fail
                  go_roundw
                  case rel => exact ⟨a + 1, by omega, by go_num, HBb.out⟩
                  case measure => simp [intOf]; omega
            · obtain rfl : a = i := by omega
              have haI : ¬ (a : Int) < (a : Int) := by omega
              have HXb := hidIt (blk_kept2 HX7.out HBa.out)
              obtain ⟨x0, x1⟩ := And.intro (cell_two0 HXb.out) (cell_two1 HXb.out)
              have lx := lt_of_block HXb.out
              have HPC := hidIt (HP7.out.below HBa.out)
              have HFa := hidIt (HF7.out.go HBa.out)
              have HBw := hidIt (HB7.out.trans (Below.mono HBa.out HB7.out.size))
              obtain ⟨ga', gc', hge, hpc⟩ := HPC.out.pc
              injection hge with hge1 hge2 hge3
              subst hge1
              have HPCC := hidIt hpc
              obtain ⟨PL, hPL⟩ : ∃ PL, PL = ps.length := ⟨_, rfl⟩
              have HPLL := hidIt hPL
              rw [← hPL] at x1 hge2
              have hPL1 : PL ≤ 1000 := by have := HPL.out; omega
              clear hpc hge2 hge3 hPL HBa HP7 HF7 HX7
              generalize wr = w8 at *
              go_wp2_with fail
              clear x0 x1 lx
              go_loopw [15, 110] (fun _ v110 wr => ∃ k : Nat, k ≤ PL ∧ v110 = .int .i64 k ∧ Hid (Below w8.heap.size w8 wr)) (fun _ v110 _ => PL - (intOf v110).toNat)
              case atStart => exact ⟨0, Nat.zero_le _, (by first | rfl | trivial), Below.refl _ _⟩
              case round =>
                obtain ⟨q, hq, rfl, HBq⟩ := hrel
                have hq0 : (0 : Int) ≤ (q : Int) := by omega
                by_cases hqL : q < PL
                · have hqI : (q : Int) < (PL : Int) := by omega
                  have h1x : q < ps.length := by have := HPLL.out; omega
                  obtain ⟨b1, o1, rfl, l1, hc1⟩ := (HPCC.out.go HBq.out).at_ h1x
                  obtain ⟨p0, p1⟩ := hc1 q h1x
                  have hix := HOK.out.ix ps[q] (List.getElem_mem _)
                  obtain ⟨g, t, hgs⟩ : ∃ g t : Nat, ps[q] = ((g : Int), (t : Int)) := ⟨ps[q].1.toNat, ps[q].2.toNat, Prod.ext (by simp only; omega) (by simp only; omega)⟩
                  have hmem : ((g : Int), (t : Int)) ∈ ps := hgs ▸ List.getElem_mem h1x
                  have hfw := idx_fwd HCL.out HOK.out hmem
                  rw [hgs] at p0 p1 hix
                  simp only at p0 p1 hix
                  have hgN : g < a := by omega
                  have htN : t < a := by omega
                  have hg0 : (0 : Int) ≤ (g : Int) := by omega
                  have ht0 : (0 : Int) ≤ (t : Int) := by omega
                  have hgI : (g : Int) < (a : Int) := by omega
                  have htI : (t : Int) < (a : Int) := by omega
                  have hgr := bgrow wr (.cells #[.int .i64 (g : Int), .int .i64 (t : Int)] 43)
                  have HQ := hidIt (heap_alloc_new wr (.cells #[.int .i64 (g : Int), .int .i64 (t : Int)] 43))
                  have HB5 := hidIt (HBq.out.trans (Below.mono hgr HBq.out.size))
                  clear hc1 hix hgs hgr HBq hmem h1x
                  go_upto_region 36 with (fail)
                  generalize (wr.alloc (.cells #[.int .i64 (g : Int), .int .i64 (t : Int)] 43)) = w5' at *
                  generalize wr.heap.size = Q at *
                  clear p0 p1 l1
                  obtain ⟨y0, y1⟩ := And.intro (cell_two0 HQ.out) (cell_two1 HQ.out)
                  have ly := lt_of_block HQ.out
                  have cg := (HFa.out.go HB5.out).cell hgN
                  have ct := (HFa.out.go HB5.out).cell htN
                  have hlF := lt_of_block (HFa.out.go HB5.out)
                  have hnle : ¬ ((idxF l t : Nat) : Int) < ((idxF l g : Nat) : Int) := by omega
                  go_quiet (fail)
                  have HB6' := hidIt (HB5.out.trans (below_drewNC _ nq _))
                  go_wp2_with fail
                  go_roundw
                  case rel => exact ⟨q + 1, by omega, by go_num, HB6'.out⟩
                  case measure => simp [intOf]; omega
                · obtain rfl : q = PL := by omega
                  have hqI : ¬ (q : Int) < (q : Int) := by omega
                  have HBE := hidIt (HBw.out.trans (Below.mono HBq.out HBw.out.size))
                  have HTE := hidIt (HT.out.go HBE.out)
                  go_wp2_with fail
                  refine (awake10 _ HTE.out).mono ?_
                  rintro e w30 ⟨rfl, hb⟩
                  have HBFF := hidIt (HBE.out.trans (Below.mono hb HBE.out.size))
                  clear hb
                  go_wp2_with fail
                  go_ret
                  exact ⟨rfl, HBFF.out⟩
end Go.Proofs.YtcelijjohcfhkaaDoor
