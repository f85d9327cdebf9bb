/- The reference's build: the same labelling and ranks. -/
import Derived.Test.YtghnojmaciljoaaZ1M1P
import Derived.Test.YtghnojmaciljoaaM1R

namespace Go.Proofs.Ytghnojmaciljoaa
set_option linter.unusedVariables false
set_option linter.unusedSimpArgs false
open Go Go.RowKit Go.Sort

theorem OwnI.set {w : World} {B g n c i : Nat} {zs : List Int} (h : OwnI w B (.slice (some ⟨g, 0, none⟩) n c) zs) (z : Int) : OwnI (w.setCell ⟨g, i, none⟩ (.int .i64 z)) B (.slice (some ⟨g, 0, none⟩) n c) (zs.set i z) := by
  unfold OwnI World.ownsRow at h ⊢
  obtain ⟨hl, h⟩ := h
  refine ⟨by simp, ?_⟩
  rcases h with ⟨h, -⟩ | ⟨g', cap, cur, hv, hB, hg, hnc, hcm, hcs, htk⟩
  · cases h
  · injection hv with hv hn hc
    injection hv with hv
    injection hv with hv
    subst hv hc
    refine .inr ⟨g, c, cur.setIfInBounds i (.int .i64 z), by rw [List.length_set, hn], hB, set_cells hg, by rw [List.length_set]; exact hnc, hcm, by rw [Array.size_setIfInBounds]; exact hcs, ?_⟩
    rw [Array.toList_setIfInBounds, List.take_set, List.length_set, htk, List.map_set]
/-- Two rows of numbers that the call owns, beside the graph's box. -/
structure RQ (B P N : Nat) (a : Option Addr) (M c : Nat) (w : World) (n m : Nat) (la : Option Addr) (lc : Nat) (ra : Option Addr) (rc : Nat) (wr : World) (lab rk : List Int) : Prop where
  ll : lab.length = n
  rl : rk.length = m
  ol : OwnI wr B (.slice la n lc) lab
  or : OwnI wr B (.slice ra m rc) rk
  ap : ∀ g, (Value.slice la n lc).ownBlock = some g → (Value.slice ra m rc).ownBlock ≠ some g
  box : wr.heap[P]? = some (.cells #[.int .i64 (N : Int), .slice a M c] 27 (0, 0))
  bl : Below w.heap.size w wr
  pb : P < B
  wp : w.heap.size ≤ P
section
variable {B P N : Nat} {a : Option Addr} {M c : Nat} {w : World} {n m : Nat} {la : Option Addr} {lc : Nat} {ra : Option Addr} {rc : Nat} {wr : World} {lab rk : List Int}
theorem RQ.go (h : RQ B P N a M c w n m la lc ra rc wr lab rk) {w' : World} (hb : Below wr.heap.size wr w') : RQ B P N a M c w n m la lc ra rc w' lab rk :=
  ⟨h.ll, h.rl, h.ol.go hb, h.or.go hb, h.ap, blk_kept2 h.box hb, h.bl.trans (Below.mono hb h.bl.size), h.pb, h.wp⟩
theorem RQ.sz (h : RQ B P N a M c w n m la lc ra rc wr lab rk) : P < wr.heap.size := lt_of_block h.box
theorem RQ.ownL (h : RQ B P N a M c w n m la lc ra rc wr lab rk) : World.ownsRow wr B 3 1 (.slice la n lc) n (lab.map (Value.int .i64)) := by
  have h1 := h.ol
  unfold OwnI at h1
  rw [h.ll] at h1
  exact h1
theorem RQ.ownR (h : RQ B P N a M c w n m la lc ra rc wr lab rk) : World.ownsRow wr B 3 1 (.slice ra m rc) m (rk.map (Value.int .i64)) := by
  have h1 := h.or
  unfold OwnI at h1
  rw [h.rl] at h1
  exact h1
theorem RQ.appL (h : RQ B P N a M c w n m la lc ra rc wr lab rk) (hB : B ≤ wr.heap.size) {w8 : World} {g8 c8 : Nat} {z : Int} (hown : w8.ownsRow B 3 1 (.slice (some ⟨g8, 0, none⟩) (n + 1) c8) (n + 1) (lab.map (Value.int .i64) ++ [.int .i64 z])) (hg : wr.grownBy w8 (Value.slice la n lc).ownBlock)
    (hbl : (Value.slice (some ⟨g8, 0, none⟩) (n + 1) c8).ownBlock = (Value.slice la n lc).ownBlock ∨ (Value.slice (some ⟨g8, 0, none⟩) (n + 1) c8).ownBlock = some wr.heap.size) :
    RQ B P N a M c w (n + 1) m (some ⟨g8, 0, none⟩) c8 ra rc w8 (lab ++ [z]) rk := by
  have hpb := h.pb
  have hOB : ∀ g, (Value.slice la n lc).ownBlock = some g → B ≤ g := fun g e => (owns_blk h.ol g e).1
  refine ⟨by rw [List.length_append, h.ll]; rfl, h.rl, ?_, owns_kept h.or fun g e => hg.block g (owns_blk h.or g e).2 (fun e2 => h.ap g e2.symm e), fun g e e2 => ?_, (hg.block P h.sz (fun e => by have := hOB P e.symm; omega)).trans h.box, below_app5 h.bl hg (fun g e => by have := hOB g e; have := h.wp; omega) h.bl.size, h.pb, h.wp⟩
  · unfold OwnI
    rw [List.length_append, List.map_append, h.ll]
    exact hown
  · rcases hbl with hbl | hbl
    · rw [hbl] at e; exact h.ap g e e2
    · rw [hbl] at e; injection e with e
      have := (owns_blk h.or g e2).2; omega
theorem RQ.appR (h : RQ B P N a M c w n m la lc ra rc wr lab rk) (hB : B ≤ wr.heap.size) {w8 : World} {g8 c8 : Nat} {z : Int} (hown : w8.ownsRow B 3 1 (.slice (some ⟨g8, 0, none⟩) (m + 1) c8) (m + 1) (rk.map (Value.int .i64) ++ [.int .i64 z])) (hg : wr.grownBy w8 (Value.slice ra m rc).ownBlock)
    (hbl : (Value.slice (some ⟨g8, 0, none⟩) (m + 1) c8).ownBlock = (Value.slice ra m rc).ownBlock ∨ (Value.slice (some ⟨g8, 0, none⟩) (m + 1) c8).ownBlock = some wr.heap.size) :
    RQ B P N a M c w n (m + 1) la lc (some ⟨g8, 0, none⟩) c8 w8 lab (rk ++ [z]) := by
  have hpb := h.pb
  have hOB : ∀ g, (Value.slice ra m rc).ownBlock = some g → B ≤ g := fun g e => (owns_blk h.or g e).1
  refine ⟨h.ll, by rw [List.length_append, h.rl]; rfl, owns_kept h.ol fun g e => hg.block g (owns_blk h.ol g e).2 (fun e2 => h.ap g e e2.symm), ?_, fun g e e2 => ?_, (hg.block P h.sz (fun e => by have := hOB P e.symm; omega)).trans h.box, below_app5 h.bl hg (fun g e => by have := hOB g e; have := h.wp; omega) h.bl.size, h.pb, h.wp⟩
  · unfold OwnI
    rw [List.length_append, List.map_append, h.rl]
    exact hown
  · rcases hbl with hbl | hbl
    · rw [hbl] at e2; exact h.ap g e e2
    · rw [hbl] at e2; injection e2 with e2
      have := (owns_blk h.ol g e).2; omega
theorem OwnI.at1 {w : World} {B n c i : Nat} {a : Option Addr} {zs : List Int} (h : OwnI w B (.slice a n c) zs) (hl : zs.length = n) (hi : i < n) (hi2 : i < zs.length) : ∃ g, a = some ⟨g, 0, none⟩ ∧ B ≤ g ∧ g < w.heap.size ∧ w.cell? ⟨g, i, none⟩ = some (.int .i64 zs[i]) ∧ w.frozen? ⟨g, i, none⟩ = false := by
  have h0 := h
  rcases h.2 with ⟨h1, h2⟩ | ⟨g, cap, cur, hv, hB, hg, -⟩
  · omega
  · injection hv with hv hn hc
    subst hv
    exact ⟨g, rfl, hB, lt_of_block hg, owns_cell h0 rfl i _ (by rw [List.getElem?_map, List.getElem?_eq_getElem hi2]; rfl), free_any hg i⟩
/-- Where a node's label and rank lie. -/
theorem RQ.at_ (h : RQ B P N a M c w n n la lc ra rc wr lab rk) {i : Nat} (hi : i < n) (h1 : i < lab.length) (h2 : i < rk.length) : ∃ g1 g2, la = some ⟨g1, 0, none⟩ ∧ ra = some ⟨g2, 0, none⟩ ∧ g1 ≠ g2 ∧ B ≤ g1 ∧ B ≤ g2 ∧ g1 < wr.heap.size ∧ g2 < wr.heap.size ∧ wr.cell? ⟨g1, i, none⟩ = some (.int .i64 lab[i]) ∧ wr.cell? ⟨g2, i, none⟩ = some (.int .i64 rk[i]) ∧ wr.frozen? ⟨g1, i, none⟩ = false ∧ wr.frozen? ⟨g2, i, none⟩ = false := by
  obtain ⟨g1, rfl, k1, k2, k3, k4⟩ := h.ol.at1 h.ll hi h1
  obtain ⟨g2, rfl, j1, j2, j3, j4⟩ := h.or.at1 h.rl hi h2
  exact ⟨g1, g2, rfl, rfl, fun e => h.ap g1 rfl (by rw [e]; rfl), k1, j1, k2, j2, k3, j3, k4, j4⟩
theorem RQ.set {g1 g2 : Nat} (h : RQ B P N a M c w n n (some ⟨g1, 0, none⟩) lc (some ⟨g2, 0, none⟩) rc wr lab rk) (hne : g1 ≠ g2) (hB1 : B ≤ g1) (hB2 : B ≤ g2) (i : Nat) (z1 z2 : Int) :
    RQ B P N a M c w n n (some ⟨g1, 0, none⟩) lc (some ⟨g2, 0, none⟩) rc ((wr.setCell ⟨g1, i, none⟩ (.int .i64 z1)).setCell ⟨g2, i, none⟩ (.int .i64 z2)) (lab.set i z1) (rk.set i z2) := by
  have hpb := h.pb
  have hwp := h.wp
  have o1 : OwnI (wr.setCell ⟨g1, i, none⟩ (.int .i64 z1)) B (.slice (some ⟨g2, 0, none⟩) n rc) rk := owns_kept h.or fun g e => Below.heap_setCell wr ⟨g1, i, none⟩ _ g (by show g ≠ g1; intro e2; have e3 : g2 = g := (by injection e); exact hne (by omega))
  refine ⟨by rw [List.length_set]; exact h.ll, by rw [List.length_set]; exact h.rl, owns_kept (h.ol.set z1) fun g e => Below.heap_setCell _ ⟨g2, i, none⟩ _ g (by show g ≠ g2; intro e2; have e3 : g1 = g := (by injection e); exact hne (by omega)), o1.set z2, h.ap, ?_, below_set5 (below_set5 h.bl (by omega)) (by omega), h.pb, h.wp⟩
  exact (Below.heap_setCell _ ⟨g2, i, none⟩ _ P (by show P ≠ g2; omega)).trans ((Below.heap_setCell wr ⟨g1, i, none⟩ _ P (by show P ≠ g1; omega)).trans h.box)
end

/-- What the reference's build gives. -/
def RBuildOut (N : Nat) (ps : List (Int × Int)) (w : World) (e : Ending) (w' : World) : Prop := ∃ (la : Option Addr) (lc : Nat) (ra : Option Addr) (rc : Nat) (lab rk : List Int), e = .returned (.tuple #[.slice la N lc, .slice ra N rc]) ∧ IL w' (.slice la N lc) lab ∧ IL w' (.slice ra N rc) rk ∧ GSpec N ps lab rk ∧ Below w.heap.size w w'

set_option maxRecDepth 100000 in
set_option maxHeartbeats 1000000 in
theorem rdBuild_any (N : Nat) (a : Option Addr) (c : Nat) (ps : List (Int × Int)) (w : World) (h : PairsAt w (.slice a ps.length c) ps) (hok : GOk (N : Int) ps) (hpl : ps.length ≤ 2000) :
    Calls Try.prog 26 #[.agg #[.int .i64 (N : Int), .slice a ps.length c]] w (RBuildOut N ps w) := by
  have hgr := bgrow w (.cells #[.int .i64 (N : Int), .slice a ps.length c] 27)
  have H0 := hidIt h
  have HOK := hidIt hok
  have hN : N ≤ 40 := by have := hok.n40; omega
  obtain ⟨gl, gr, hsp, hrb⟩ := gspec_exB hok
  have HSP := hidIt hsp
  have HRB := hidIt hrb
  have HQ1 : Hid (RQ (w.heap.size + 1) w.heap.size N a ps.length c w 0 0 none 0 none 0 (w.alloc (.cells #[.int .i64 (N : Int), .slice a ps.length c] 27)) [] []) :=
    ⟨rfl, rfl, OwnI.nil _ _, OwnI.nil _ _, fun g e => (by cases e), heap_alloc_new w _, hgr, Nat.lt_succ_self _, Nat.le_refl _⟩
  clear h hok hsp hrb hgr
  go_enter Try.func26, Try.ntmps26
  go_upto_region 1 with (fail)
  generalize (w.alloc (.cells #[.int .i64 (N : Int), .slice a ps.length c] 27)) = w1 at *
  obtain ⟨P, hP⟩ : ∃ P, P = w.heap.size := ⟨_, rfl⟩
  have HP := hidIt hP
  rw [← hP] at HQ1 ⊢
  clear hP
  obtain ⟨M, hM⟩ : ∃ M, M = ps.length := ⟨_, rfl⟩
  have HM := hidIt hM
  rw [← hM] at hpl HQ1 H0 ⊢
  clear hM
  go_wp2_with fail
  go_loopw [4, 5, 6] (fun v4 v5 v6 wr => ∃ (k : Nat) (la : Option Addr) (lc : Nat) (ra : Option Addr) (rc : Nat), k ≤ N ∧ v4 = .slice la k lc ∧ v5 = .slice ra k rc ∧ v6 = .int .i64 k ∧ Hid (RQ (P + 1) P N a M c w k k la lc ra rc wr (List.replicate k 3) (List.replicate k 0))) (fun _ _ v6 _ => N - (intOf v6).toNat)
  case atStart => exact ⟨0, none, 0, none, 0, Nat.zero_le _, (by first | rfl | trivial), (by first | rfl | trivial), (by first | rfl | trivial), HQ1.out⟩
  case round =>
    clear HQ1
    obtain ⟨k, la, lc, ra, rc, hk, rfl, rfl, rfl, HQ⟩ := hrel
    have hk0 : (0 : Int) ≤ (k : Int) := by omega
    obtain ⟨x0, x1⟩ := And.intro (cell_two0 HQ.out.box) (cell_two1 HQ.out.box)
    have lx := HQ.out.sz
    by_cases hlt : k < N
    · have hkI : (k : Int) < (N : Int) := by omega
      have hgr := bgrow wr (.cells #[.int .i64 3] 3)
      have HQ2 := hidIt (HQ.out.go hgr)
      have hsz2 : P + 1 ≤ (wr.alloc (.cells #[.int .i64 3] 3)).heap.size := HQ2.out.sz
      have HN2 := hidIt (heap_alloc_new wr (.cells #[.int .i64 3] 3))
      clear hgr HQ
      go_wp2_with (at_builtin; refine Hid.out ?_)
      refine hidIt ?_
      refine wpList_append_kb rfl (.tmp 23) (.tmp 24) elemI rfl (P + 1) (.slice la k lc) k _ rfl HQ2.out.ownL _ 1 rfl #[.int .i64 3] 3 HN2.out rfl (one_of (by rfl)) (by omega) hsz2 ?_
      intro g8 c8 w8 hown8 hg8 hbl8
      have HQ8 := hidIt (HQ2.out.appL hsz2 hown8 hg8 hbl8)
      clear hown8 hg8 hbl8 HQ2 HN2 hsz2 x0 x1 lx
      have hgr := bgrow w8 (.cells #[.int .i64 0] 3)
      have HQ9 := hidIt (HQ8.out.go hgr)
      have hsz9 : P + 1 ≤ (w8.alloc (.cells #[.int .i64 0] 3)).heap.size := HQ9.out.sz
      have HN9 := hidIt (heap_alloc_new w8 (.cells #[.int .i64 0] 3))
      clear hgr HQ8
      go_wp2_with (at_builtin; refine Hid.out ?_)
      refine hidIt ?_
      refine wpList_append_kb rfl (.tmp 26) (.tmp 27) elemI rfl (P + 1) (.slice ra k rc) k _ rfl HQ9.out.ownR _ 1 rfl #[.int .i64 0] 3 HN9.out rfl (one_of (by rfl)) (by omega) hsz9 ?_
      intro g10 c10 w10 hown10 hg10 hbl10
      have HQ10 := hidIt (HQ9.out.appR hsz9 hown10 hg10 hbl10)
      have e3 : List.replicate k (3 : Int) ++ [3] = List.replicate (k + 1) 3 := (List.replicate_succ' ..).symm
      have e0 : List.replicate k (0 : Int) ++ [0] = List.replicate (k + 1) 0 := (List.replicate_succ' ..).symm
      rw [e3, e0] at HQ10
      clear hown10 hg10 hbl10 HQ9 HN9 hsz9 e3 e0
      go_wp2_with fail
      go_roundw
      case rel => exact ⟨k + 1, _, _, _, _, by omega, (by first | rfl | trivial), (by first | rfl | trivial), by go_num, HQ10.out⟩
      case measure => simp [intOf]; omega
    · obtain rfl : k = N := by omega
      have hkI : ¬ (k : Int) < (k : Int) := by omega
      have HQ2 : Hid (RQ (P + 1) P k a M c w k k la lc ra rc wr (fsR k (cutF gl gr 3 1)) (fsR k (cutF gr gr 0 1))) := by
        have hs := cut_start HSP.out
        show RQ _ _ _ _ _ _ _ _ _ _ _ _ _ _ _ _
        rw [hs.1, hs.2]
        exact HQ.out
      clear HQ
      generalize wr = w2 at *
      go_wp2_with fail
      clear x0 x1 lx
      go_loopw [7, 8, 9, 10, 11, 13, 14, 16, 49, 80] (fun v7 _ _ _ _ _ _ _ _ _ wr => ∃ t : Nat, 1 ≤ t ∧ t ≤ 43 ∧ v7 = .int .i64 t ∧ Hid (RQ (P + 1) P k a M c w k k la lc ra rc wr (fsR k (cutF gl gr 3 t)) (fsR k (cutF gr gr 0 t)))) (fun v7 _ _ _ _ _ _ _ _ _ _ => 44 - (intOf v7).toNat)
      case atStart => exact ⟨1, Nat.le_refl _, by decide, (by first | rfl | trivial), HQ2.out⟩
      case round =>
        clear HQ2
        obtain ⟨t, ht1, ht43, rfl, HQ⟩ := hrel
        have htI : (1 : Int) ≤ (t : Int) := by omega
        have HT := hidIt htI
        obtain ⟨bf, hbf⟩ : ∃ bf, bf = fsR k (cutF gl gr 3 t) := ⟨_, rfl⟩
        have HBF := hidIt hbf
        obtain ⟨r0, hr0⟩ : ∃ r0, r0 = fsR k (cutF gr gr 0 t) := ⟨_, rfl⟩
        have HR0 := hidIt hr0
        rw [← hbf, ← hr0] at HQ
        have hbl : bf.length = k := by rw [hbf, fsR_len]
        have HBL := hidIt hbl
        clear hbf hr0 hbl
        have hgr := bgrow wr (.cells #[] 3)
        have HQ3 := hidIt (HQ.out.go hgr)
        have HI3 : Hid (IL (wr.alloc (.cells #[] 3)) (.slice la k lc) bf) := HQ3.out.ol.il
        have HN3 := hidIt (heap_alloc_new wr (.cells #[] 3))
        go_wp2_with (at_builtin; refine Hid.out ?_)
        refine hidIt ?_
        refine wpList_append_ints rfl (.tmp 31) (.tmp 32) rfl wr.heap.size wr.heap.size (Nat.le_refl _) HN3.out rfl la k lc bf rfl HI3.out (by omega) ?_
        intro g4 c4 w4 ho4 hg4
        have hb4 : Below wr.heap.size wr w4 := below_app5 hgr hg4 (fun g e => by injection e with e; omega) hgr.size
        have HQ4 := hidIt (HQ.out.go hb4)
        have HO4 := hidIt ho4
        have HLT : Hid (∀ g, ((Value.slice la k lc).ownBlock = some g ∨ (Value.slice ra k rc).ownBlock = some g) → g < wr.heap.size) := fun g e => by
          rcases e with e | e
          · exact (owns_blk HQ.out.ol g e).2
          · exact (owns_blk HQ.out.or g e).2
        clear hgr hg4 hb4 ho4 HQ HQ3 HI3 HN3
        obtain ⟨bs, hbs⟩ : ∃ bs, bs = wr.heap.size := ⟨_, rfl⟩
        have HBS := hidIt hbs
        rw [← hbs] at HO4 HLT
        clear hbs
        go_wp2_with fail
        go_loopw [8, 10, 11, 13, 49] (fun v8 v10 _ _ _ wr => ∃ (i : Nat) (lab rk : List Int) (ch : Bool), i ≤ k ∧ v10 = .int .i64 i ∧ v8 = .bool ch ∧ Hid ((List.range i).foldl (inS bf ps t) (bf, r0, false) = (lab, rk, ch)) ∧ Hid (RQ (P + 1) P k a M c w k k la lc ra rc wr lab rk) ∧ Hid (OwnI wr bs (.slice (some ⟨g4, 0, none⟩) k c4) bf)) (fun _ v10 _ _ _ _ => k - (intOf v10).toNat)
        case atStart => exact ⟨0, bf, r0, false, Nat.zero_le _, (by first | rfl | trivial), (by first | rfl | trivial), (rfl : _ = _), HQ4.out, HO4.out⟩
        case round =>
          clear HQ4 HO4
          obtain ⟨i, lab, rk, ch, hi, rfl, rfl, HFO, HQ, HO⟩ := hrel
          have hi0 : (0 : Int) ≤ (i : Int) := by omega
          obtain ⟨x0, x1⟩ := And.intro (cell_two0 HQ.out.box) (cell_two1 HQ.out.box)
          have lx := HQ.out.sz
          by_cases hik : i < k
          · have hiI : (i : Int) < (k : Int) := by omega
            have hib : i < bf.length := by rw [HBL.out]; exact hik
            obtain ⟨gq, hgq, -, lgq, q0, -⟩ := HO.out.at1 HBL.out hik hib
            injection hgq with hgq
            injection hgq with hgq
            subst hgq
            have HFS : Hid ((List.range (i + 1)).foldl (inS bf ps t) (bf, r0, false) = inS bf ps t (lab, rk, ch) i) := by
              show _ = _
              rw [List.range_succ, List.foldl_append, HFO.out]; rfl
            have HB0 : Hid ((bf[i] == 3) = decide (bf.getD i 0 = 3)) := by
              show _ = _
              rw [getD_at hib]; rfl
            have HFR : Hid (frB bf ps i = (decide (bf.getD i 0 = 3) && (ins ps i).all fun x => decide (bf.getD x 0 = 2))) := (rfl : _ = _)
            rw [← HB0.out] at HFR
            generalize bf[i] = zi at *
            generalize hb0 : (zi == 3) = b0 at *
            have HB0b := hidIt hb0
            clear hib HFO
            go_wp2_with fail
            refine (rgAttackers2_any (k : Int) _ ps (i : Int) wr (H0.out.below HQ.out.bl) (by have := HM.out; omega)).mono ?_
            rw [vL_of HOK.out, inL_ins HOK.out]
            rintro e w9 ⟨v9, rfl, ho9, hb9⟩
            have HQ9 := hidIt (HQ.out.go hb9)
            have HO9 := hidIt (HO.out.go hb9)
            obtain ⟨ka, kc, rfl, hkc⟩ := ho9.il.ic
            have HKC := hidIt hkc
            have HIL := hidIt (ins_lt HOK.out i)
            have hAl : (ins ps i).length ≤ 2000 := by have := ins_len_le ps i; have := HM.out; omega
            rw [intsN_len]
            obtain ⟨A, hA⟩ : ∃ A, A = (ins ps i).length := ⟨_, rfl⟩
            have HA := hidIt hA
            rw [← hA] at hAl ⊢
            clear ho9 hkc hb9 HQ HO hA x0 x1 lx q0 lgq hb0 HB0
            go_wp2_with fail
            go_loopw [11, 13, 49] (fun v11 _ v49 wr => ∃ q : Nat, q ≤ A ∧ v49 = .int .i64 q ∧ v11 = .bool (b0 && ((ins ps i).take q).all fun x => decide (bf.getD x 0 = 2)) ∧ wr = w9) (fun _ _ v49 _ => A - (intOf v49).toNat)
            case atStart => exact ⟨0, Nat.zero_le _, (by first | rfl | trivial), (by rw [List.take_zero, List.all_nil, Bool.and_true]), (by first | rfl | trivial)⟩
            case round =>
              obtain ⟨q, hq, rfl, rfl, rfl⟩ := hrel
              have hq0 : (0 : Int) ≤ (q : Int) := by omega
              by_cases hqA : q < A
              · have hqI : (q : Int) < (A : Int) := by omega
                have hqk : q < (ins ps i).length := by have := HA.out; omega
                obtain ⟨b1, o1, rfl, l1, hc1⟩ := HKC.out.at_ (k := q) (by rw [intsN_len]; exact hqk)
                have p0 := hc1 q (by rw [intsN_len]; exact hqk)
                rw [show (intsN (ins ps i))[q]'(by rw [intsN_len]; exact hqk) = ((ins ps i)[q] : Int) by simp [intsN]] at p0
                have hxk := HIL.out _ (List.getElem_mem hqk)
                have HST : Hid (((ins ps i).take (q + 1)).all (fun x => decide (bf.getD x 0 = 2)) = (((ins ps i).take q).all (fun x => decide (bf.getD x 0 = 2)) && decide (bf.getD (ins ps i)[q] 0 = 2))) := by
                  show _ = _
                  rw [List.take_succ_eq_append_getElem hqk, List.all_append]
                  simp
                generalize (ins ps i)[q] = x at *
                clear hc1
                generalize ((ins ps i).take q).all (fun x => decide (bf.getD x 0 = 2)) = al at *
                have hxk2 : x < k := by omega
                have hx0 : (0 : Int) ≤ (x : Int) := by omega
                have hxb : x < bf.length := by rw [HBL.out]; exact hxk2
                obtain ⟨gq, hgq, -, lgq, q0, -⟩ := HO9.out.at1 HBL.out hxk2 hxb
                injection hgq with hgq
                injection hgq with hgq
                subst hgq
                rw [getD_at hxb] at HST
                generalize bf[x] = y at *
                clear hxb
                cases hcb : (b0 && al)
                · have HE : Hid ((b0 && ((ins ps i).take (q + 1)).all fun x => decide (bf.getD x 0 = 2)) = false) := by
                    show _ = _
                    rw [HST.out, ← Bool.and_assoc, hcb, Bool.false_and]
                  clear hcb
                  go_wp2_with fail
                  go_roundw
                  case rel => exact ⟨q + 1, by omega, by go_num, by rw [HE.out], (by first | rfl | trivial)⟩
                  case measure => simp [intOf]; omega
                · have HE : Hid ((b0 && ((ins ps i).take (q + 1)).all fun x => decide (bf.getD x 0 = 2)) = (y == 2)) := by
                    show _ = _
                    rw [HST.out, ← Bool.and_assoc, hcb, Bool.true_and]; rfl
                  clear hcb
                  generalize hyb : (y == 2) = yb at *
                  go_wp2_with fail
                  go_roundw
                  case rel => exact ⟨q + 1, by omega, by go_num, by rw [HE.out], (by first | rfl | trivial)⟩
                  case measure => simp [intOf]; omega
              · obtain rfl : q = A := by omega
                have hqI : ¬ (q : Int) < (q : Int) := by omega
                have HFR2 : Hid ((b0 && ((ins ps i).take q).all fun x => decide (bf.getD x 0 = 2)) = frB bf ps i) := by
                  show _ = _
                  rw [List.take_of_length_le (by have := HA.out; omega), HFR.out]
                rw [HFR2.out]
                have HFS2 := HFS
                clear HFS HFR HFR2 HKC
                cases hfr : frB bf ps i
                · have HN : Hid ((List.range (i + 1)).foldl (inS bf ps t) (bf, r0, false) = (lab, rk, ch)) := by
                    show _ = _
                    rw [HFS2.out]; unfold inS; rw [hfr, if_neg (by decide)]
                  clear hfr
                  go_wp2_with fail
                  go_roundw
                  case rel => exact ⟨i + 1, lab, rk, ch, by omega, by go_num, (by first | rfl | trivial), HN.out, HQ9.out, HO9.out⟩
                  case measure => simp [intOf]; omega
                · have HN : Hid ((List.range (i + 1)).foldl (inS bf ps t) (bf, r0, false) = (lab.set i 1, rk.set i t, true)) := by
                    show _ = _
                    rw [HFS2.out]; unfold inS; rw [hfr, if_pos rfl]
                  clear hfr
                  obtain ⟨g1, g2, hla, hra, hne, hB1, hB2, l1, l2, c1, c2, f1, f2⟩ := HQ9.out.at_ hik (by rw [HQ9.out.ll]; exact hik) (by rw [HQ9.out.rl]; exact hik)
                  subst hla hra
                  have HQ10 := hidIt (HQ9.out.set hne hB1 hB2 i 1 (t : Int))
                  have hlt1 := HLT.out g1 (.inl rfl)
                  have hlt2 := HLT.out g2 (.inr rfl)
                  have HO10 : Hid (OwnI ((wr.setCell ⟨g1, i, none⟩ (.int .i64 1)).setCell ⟨g2, i, none⟩ (.int .i64 (t : Int))) bs (.slice (some ⟨g4, 0, none⟩) k c4) bf) :=
                    owns_kept HO9.out fun g e => (Below.heap_setCell _ ⟨g2, i, none⟩ _ g (by show g ≠ g2; have := (owns_blk HO9.out g e).1; omega)).trans (Below.heap_setCell wr ⟨g1, i, none⟩ _ g (by show g ≠ g1; have := (owns_blk HO9.out g e).1; omega))
                  have c2' : (wr.setCell ⟨g1, i, none⟩ (.int .i64 1)).cell? ⟨g2, i, none⟩ = some (.int .i64 (rk[i]'(by rw [HQ9.out.rl]; exact hik))) := (World.cell?_of_block (w := wr) (a := ⟨g2, i, none⟩) (Below.heap_setCell wr ⟨g1, i, none⟩ _ g2 (by show g2 ≠ g1; exact Ne.symm hne))).trans c2
                  have f2' : (wr.setCell ⟨g1, i, none⟩ (.int .i64 1)).frozen? ⟨g2, i, none⟩ = false := (World.frozen?_of_block (w := wr) (a := ⟨g2, i, none⟩) (Below.heap_setCell wr ⟨g1, i, none⟩ _ g2 (by show g2 ≠ g1; exact Ne.symm hne))).trans f2
                  generalize lab[i]'(by rw [HQ9.out.ll]; exact hik) = z1 at *
                  generalize rk[i]'(by rw [HQ9.out.rl]; exact hik) = z2 at *
                  go_wp2_with fail
                  go_roundw
                  case rel => exact ⟨i + 1, _, _, true, by omega, by go_num, (by first | rfl | trivial), HN.out, HQ10.out, HO10.out⟩
                  case measure => simp [intOf]; omega
          · obtain rfl : i = k := by omega
            have hiI : ¬ (i : Int) < (i : Int) := by omega
            have hall := in_all HOK.out.ix HSP.out HT.out i (Nat.le_refl _)
            rw [← HBF.out, ← HR0.out, HFO.out] at hall
            injection hall with e1 hall
            injection hall with e2 e3
            have HCH := hidIt e3
            have HME := hidIt (mid_end (N := i) (gl := gl) (gr := gr) (t := (t : Int)))
            have HQ5 : Hid (RQ (P + 1) P i a M c w i i la lc ra rc wr (fsR i (endF gl gr t 0)) (fsR i (endG gl gr t 0))) := by
              show RQ _ _ _ _ _ _ _ _ _ _ _ _ _ _ _ _
              rw [← HME.out.1, ← HME.out.2, ← e1, ← e2]
              exact HQ.out
            have HBW : Hid (bs ≤ wr.heap.size) := by
              have h4 := HO.out.2
              rcases h4 with ⟨h4, -⟩ | ⟨g, cap, cur, hv, hB, hg, -⟩
              · cases h4
              · have := lt_of_block hg; show bs ≤ _; omega
            clear e1 e2 e3 HQ HO HFO HME x0 x1 lx
            obtain ⟨x0, x1⟩ := And.intro (cell_two0 HQ5.out.box) (cell_two1 HQ5.out.box)
            have lx := HQ5.out.sz
            generalize wr = w5 at *
            go_wp2_with fail
            clear x0 x1 lx
            go_loopw [14, 16, 80] (fun v14 _ _ wr => ∃ (j : Nat) (lab rk : List Int), j ≤ i ∧ v14 = .int .i64 j ∧ Hid ((List.range j).foldl (fun s x => (ins ps x).foldl (outS t x) s) (fsR i (endF gl gr t 0), fsR i (endG gl gr t 0)) = (lab, rk)) ∧ Hid (RQ (P + 1) P i a M c w i i la lc ra rc wr lab rk) ∧ Hid (bs ≤ wr.heap.size)) (fun v14 _ _ _ => i - (intOf v14).toNat)
            case atStart => exact ⟨0, _, _, Nat.zero_le _, (by first | rfl | trivial), (rfl : _ = _), HQ5.out, HBW.out⟩
            case round =>
              clear HQ5 HBW
              obtain ⟨j, lab, rk, hj, rfl, HFO, HQ, HBW⟩ := hrel
              have hj0 : (0 : Int) ≤ (j : Int) := by omega
              obtain ⟨x0, x1⟩ := And.intro (cell_two0 HQ.out.box) (cell_two1 HQ.out.box)
              have lx := HQ.out.sz
              by_cases hji : j < i
              · have hjI : (j : Int) < (i : Int) := by omega
                have HFS : Hid ((List.range (j + 1)).foldl (fun s x => (ins ps x).foldl (outS t x) s) (fsR i (endF gl gr t 0), fsR i (endG gl gr t 0)) = (ins ps j).foldl (outS t j) (lab, rk)) := by
                  show _ = _
                  rw [List.range_succ, List.foldl_append, HFO.out]; rfl
                clear HFO
                go_wp2_with fail
                refine (rgAttackers2_any (i : Int) _ ps (j : Int) wr (H0.out.below HQ.out.bl) (by have := HM.out; omega)).mono ?_
                rw [vL_of HOK.out, inL_ins HOK.out]
                rintro e w9 ⟨v9, rfl, ho9, hb9⟩
                have HQ9 := hidIt (HQ.out.go hb9)
                have HBW9 : Hid (bs ≤ w9.heap.size) := Nat.le_trans HBW.out hb9.size
                obtain ⟨ka, kc, rfl, -⟩ := ho9.il.ic
                have HOA := hidIt (OwnI.low ho9 HBW.out)
                have HIL := hidIt (ins_lt HOK.out j)
                have hAl : (ins ps j).length ≤ 2000 := by have := ins_len_le ps j; have := HM.out; omega
                rw [intsN_len] at HOA ⊢
                obtain ⟨A, hA⟩ : ∃ A, A = (ins ps j).length := ⟨_, rfl⟩
                have HA := hidIt hA
                rw [← hA] at hAl HOA ⊢
                clear ho9 hb9 HQ HBW hA x0 x1 lx
                go_wp2_with fail
                go_loopw [16, 80] (fun _ v80 wr => ∃ (q : Nat) (lab2 rk2 : List Int), q ≤ A ∧ v80 = .int .i64 q ∧ Hid (((ins ps j).take q).foldl (outS t j) (lab, rk) = (lab2, rk2)) ∧ Hid (RQ (P + 1) P i a M c w i i la lc ra rc wr lab2 rk2) ∧ Hid (OwnI wr bs (.slice ka A kc) (intsN (ins ps j))) ∧ Hid (bs ≤ wr.heap.size)) (fun _ v80 _ => A - (intOf v80).toNat)
                case atStart => exact ⟨0, lab, rk, Nat.zero_le _, (by first | rfl | trivial), (rfl : _ = _), HQ9.out, HOA.out, HBW9.out⟩
                case round =>
                  clear HQ9 HOA HBW9
                  obtain ⟨q, lab2, rk2, hq, rfl, HFQ, HQ, HOA, HBW⟩ := hrel
                  have hq0 : (0 : Int) ≤ (q : Int) := by omega
                  by_cases hqA : q < A
                  · have hqI : (q : Int) < (A : Int) := by omega
                    have hqk : q < (ins ps j).length := by have := HA.out; omega
                    obtain ⟨gk, rfl, -, lgk, p0, -⟩ := HOA.out.at1 (by rw [intsN_len]; exact HA.out.symm) hqA (by rw [intsN_len]; exact hqk)
                    rw [show (intsN (ins ps j))[q]'(by rw [intsN_len]; exact hqk) = ((ins ps j)[q] : Int) by simp [intsN]] at p0
                    have hxk := HIL.out _ (List.getElem_mem hqk)
                    have HST : Hid (((ins ps j).take (q + 1)).foldl (outS t j) (lab, rk) = outS t j (lab2, rk2) (ins ps j)[q]) := by
                      show _ = _
                      rw [foldl_take_succ _ _ _ _ hqk, HFQ.out]
                    generalize (ins ps j)[q] = x at *
                    clear hqk HFQ
                    have hxi : x < i := by omega
                    have hx0 : (0 : Int) ≤ (x : Int) := by omega
                    obtain ⟨g1, g2, hla, hra, hne, hB1, hB2, l1, l2, cj1, cj2, fj1, fj2⟩ := HQ.out.at_ hji (by rw [HQ.out.ll]; exact hji) (by rw [HQ.out.rl]; exact hji)
                    subst hla hra
                    obtain ⟨g1', g2', hla, hra, -, -, -, -, -, cx1, cx2, -, -⟩ := HQ.out.at_ hxi (by rw [HQ.out.ll]; exact hxi) (by rw [HQ.out.rl]; exact hxi)
                    injection hla with hla
                    injection hla with hla
                    injection hra with hra
                    injection hra with hra
                    subst hla hra
                    have HOS : Hid (outS t j (lab2, rk2) x = if lab2[j]'(by rw [HQ.out.ll]; exact hji) = 3 ∧ lab2[x]'(by rw [HQ.out.ll]; exact hxi) = 1 ∧ rk2[x]'(by rw [HQ.out.rl]; exact hxi) = t then (lab2.set j 2, rk2.set j t) else (lab2, rk2)) := by
                      show _ = _
                      unfold outS
                      simp only [getD_at (show j < lab2.length by rw [HQ.out.ll]; exact hji), getD_at (show x < lab2.length by rw [HQ.out.ll]; exact hxi), getD_at (show x < rk2.length by rw [HQ.out.rl]; exact hxi)]
                    have HSET := hidIt (HQ.out.set hne hB1 hB2 j 2 (t : Int))
                    have hlt1 := HLT.out g1 (.inl rfl)
                    have hlt2 := HLT.out g2 (.inr rfl)
                    have HO10 : Hid (OwnI ((wr.setCell ⟨g1, j, none⟩ (.int .i64 2)).setCell ⟨g2, j, none⟩ (.int .i64 (t : Int))) bs (.slice (some ⟨gk, 0, none⟩) A kc) (intsN (ins ps j))) :=
                      owns_kept HOA.out fun g e => (Below.heap_setCell _ ⟨g2, j, none⟩ _ g (by show g ≠ g2; have := (owns_blk HOA.out g e).1; omega)).trans (Below.heap_setCell wr ⟨g1, j, none⟩ _ g (by show g ≠ g1; have := (owns_blk HOA.out g e).1; omega))
                    have c2' : (wr.setCell ⟨g1, j, none⟩ (.int .i64 2)).cell? ⟨g2, j, none⟩ = some (.int .i64 (rk2[j]'(by rw [HQ.out.rl]; exact hji))) := (World.cell?_of_block (w := wr) (a := ⟨g2, j, none⟩) (Below.heap_setCell wr ⟨g1, j, none⟩ _ g2 (by show g2 ≠ g1; exact Ne.symm hne))).trans cj2
                    have f2' : (wr.setCell ⟨g1, j, none⟩ (.int .i64 2)).frozen? ⟨g2, j, none⟩ = false := (World.frozen?_of_block (w := wr) (a := ⟨g2, j, none⟩) (Below.heap_setCell wr ⟨g1, j, none⟩ _ g2 (by show g2 ≠ g1; exact Ne.symm hne))).trans fj2
                    have HBW2 : Hid (bs ≤ ((wr.setCell ⟨g1, j, none⟩ (.int .i64 2)).setCell ⟨g2, j, none⟩ (.int .i64 (t : Int))).heap.size) := by
                      show bs ≤ _
                      simpa using HBW.out
                    generalize lab2[j]'(by rw [HQ.out.ll]; exact hji) = zj at *
                    generalize lab2[x]'(by rw [HQ.out.ll]; exact hxi) = zx at *
                    generalize rk2[x]'(by rw [HQ.out.rl]; exact hxi) = rx at *
                    generalize rk2[j]'(by rw [HQ.out.rl]; exact hji) = rj at *
                    by_cases hc1 : zj = 3
                    rotate_left
                    · have HN := hidIt (HST.out.trans (HOS.out.trans (if_neg (fun h => hc1 h.1))))
                      have hb1 : (zj == 3) = false := beq_eq_false_iff_ne.2 hc1
                      clear hc1 HST HOS c2' f2'
                      go_wp2_with fail
                      go_roundw
                      case rel => exact ⟨q + 1, lab2, rk2, by omega, by go_num, HN.out, HQ.out, HOA.out, HBW.out⟩
                      case measure => simp [intOf]; omega
                    subst hc1
                    by_cases hc2 : zx = 1
                    rotate_left
                    · have HN := hidIt (HST.out.trans (HOS.out.trans (if_neg (fun h => hc2 h.2.1))))
                      have hb1 : (zx == 1) = false := beq_eq_false_iff_ne.2 hc2
                      clear hc2 HST HOS c2' f2'
                      go_wp2_with fail
                      go_roundw
                      case rel => exact ⟨q + 1, lab2, rk2, by omega, by go_num, HN.out, HQ.out, HOA.out, HBW.out⟩
                      case measure => simp [intOf]; omega
                    subst hc2
                    by_cases hc3 : rx = (t : Int)
                    rotate_left
                    · have HN := hidIt (HST.out.trans (HOS.out.trans (if_neg (fun h => hc3 h.2.2))))
                      have hb1 : (rx == (t : Int)) = false := beq_eq_false_iff_ne.2 hc3
                      clear hc3 HST HOS c2' f2'
                      go_wp2_with fail
                      go_roundw
                      case rel => exact ⟨q + 1, lab2, rk2, by omega, by go_num, HN.out, HQ.out, HOA.out, HBW.out⟩
                      case measure => simp [intOf]; omega
                    have HN := hidIt (HST.out.trans (HOS.out.trans (if_pos ⟨rfl, rfl, hc3⟩)))
                    subst hc3
                    clear HST HOS
                    go_wp2_with fail
                    go_roundw
                    case rel => exact ⟨q + 1, _, _, by omega, by go_num, HN.out, HSET.out, HO10.out, HBW2.out⟩
                    case measure => simp [intOf]; omega
                  · obtain rfl : q = A := by omega
                    have hqI : ¬ (q : Int) < (q : Int) := by omega
                    have HN : Hid ((List.range (j + 1)).foldl (fun s x => (ins ps x).foldl (outS t x) s) (fsR i (endF gl gr t 0), fsR i (endG gl gr t 0)) = (lab2, rk2)) := by
                      have h := HFQ.out
                      rw [List.take_of_length_le (by have := HA.out; omega)] at h
                      show _ = _
                      rw [HFS.out, h]
                    go_wp2_with fail
                    go_roundw
                    case rel => exact ⟨j + 1, lab2, rk2, by omega, by go_num, HN.out, HQ.out, HBW.out⟩
                    case measure => simp [intOf]; omega
              · obtain rfl : j = i := by omega
                have hjI : ¬ (j : Int) < (j : Int) := by omega
                have hall := out_all HOK.out.ix HSP.out (t := (t : Int)) j (Nat.le_refl _)
                rw [HFO.out] at hall
                injection hall with e1 e2
                have hec := end_cut HSP.out HT.out
                have HQ6 : Hid (RQ (P + 1) P j a M c w j j la lc ra rc wr (fsR j (cutF gl gr 3 ((t : Int) + 1))) (fsR j (cutF gr gr 0 ((t : Int) + 1)))) := by
                  show RQ _ _ _ _ _ _ _ _ _ _ _ _ _ _ _ _
                  rw [← hec.1, ← hec.2, ← e1, ← e2]
                  exact HQ.out
                clear HQ HFO e1 e2 hec
                cases hany : (List.range j).any (inT gl gr t)
                · have hlast := last_round HOK.out.ix HSP.out HT.out hany
                  rw [hlast.1, hlast.2] at HQ6
                  have HCH2 := hidIt (HCH.out.trans hany)
                  rw [HCH2.out]
                  clear hany hlast
                  go_wp2_with fail
                  go_ret2
                  exact ⟨la, lc, ra, rc, gl, gr, rfl, HQ6.out.ol.il, HQ6.out.or.il, HSP.out, HQ6.out.bl⟩
                · have HCH2 := hidIt (HCH.out.trans hany)
                  rw [HCH2.out]
                  have ht42 : t ≤ 42 := by
                    obtain ⟨x, hx, hxt⟩ := List.any_eq_true.1 hany
                    unfold inT at hxt
                    rw [Bool.and_eq_true, decide_eq_true_eq, decide_eq_true_eq] at hxt
                    have := HRB.out x (List.mem_range.1 hx)
                    omega
                  have HQ7 : Hid (RQ (P + 1) P j a M c w j j la lc ra rc wr (fsR j (cutF gl gr 3 ((t + 1 : Nat) : Int))) (fsR j (cutF gr gr 0 ((t + 1 : Nat) : Int)))) := by
                    show RQ _ _ _ _ _ _ _ _ _ _ _ _ _ _ _ _
                    rw [Int.natCast_add]
                    exact HQ6.out
                  have hwt : IntKind.i64.wrap ((t : Int) + 1) = (t : Int) + 1 := IntWalk.i64_in _ (by omega)
                  clear hany HQ6
                  go_wp2_with fail
                  go_roundw
                  case rel => exact ⟨t + 1, by omega, by omega, by go_num, HQ7.out⟩
                  case measure => simp [intOf]; omega
end Go.Proofs.Ytghnojmaciljoaa
