/- The law GroundedAcyclic: for every list of numbers it answers true. -/
import Derived.Test.YtghnojmaciljoaaZ1D
import Derived.Test.YtghnojmaciljoaaL1U
import Derived.Test.YtghnojmaciljoaaL1M

namespace Go.Proofs.Ytghnojmaciljoaa
set_option linter.unusedVariables false
set_option linter.unusedSimpArgs false
open Go Go.RowKit Go.Sort

theorem Gen.to {N f t t2 : Nat} {ps : List (Int × Int)} (h : Gen N f t ps) (ht : t ≤ t2) : Gen N f t2 ps := ⟨h.ix, fun p hp => by have := h.lt p hp; omega, h.up, by have := h.len; omega⟩
/-- A graph whose attacks go upwards, made beside a reader. -/
structure AS (w : World) (b Q : Nat) (zs : List Int) (n : Int) (wr : World) (v : Value) (ps : List (Int × Int)) : Prop where
  bq : b < Q
  sz : w.heap.size ≤ Q
  box : wr.heap[Q]? = some (.cells #[.int .i64 n, v] 27 (0, 0))
  own : OwnP wr (Q + 1) v ps
  src : ∃ k, SrcAt wr b b zs k
  gr : w.grownBy wr (some b)
  up : ∀ p ∈ ps, p.1 < p.2
theorem AS.call {w wr w' : World} {b Q : Nat} {zs : List Int} {n : Int} {v : Value} {ps : List (Int × Int)} {k : Nat} (h : AS w b Q zs n wr v ps) (hs : SrcAt w' b b zs k) (hg : wr.grownBy w' (some b)) : AS w b Q zs n w' v ps := by
  have hbq := h.bq
  exact ⟨h.bq, h.sz, (hg.block Q (lt_of_block h.box) (fun e => by injection e with e; omega)).trans h.box,
    owns_kept h.own fun g e => hg.block g (owns_blk h.own g e).2 (fun e2 => by injection e2 with e2; have := (owns_blk h.own g e).1; omega), ⟨k, hs⟩, only_trans h.gr hg, h.up⟩
theorem AS.go {w wr w' : World} {b Q : Nat} {zs : List Int} {n : Int} {v : Value} {ps : List (Int × Int)} (h : AS w b Q zs n wr v ps) (hb : Below wr.heap.size wr w') : AS w b Q zs n w' v ps := by
  obtain ⟨k, hs⟩ := h.src
  exact h.call (hs.grow (only_of_below hb none)) (only_of_below hb _)
theorem AS.lt {w wr : World} {b Q : Nat} {zs : List Int} {n : Int} {v : Value} {ps : List (Int × Int)} (h : AS w b Q zs n wr v ps) : Q + 1 ≤ wr.heap.size := lt_of_block h.box
theorem AS.app {w wr w8 : World} {b Q : Nat} {zs : List Int} {n : Int} {v v8 : Value} {ps : List (Int × Int)} {x : Int × Int} (h : AS w b Q zs n wr v ps) (hx : x.1 < x.2) (hown : w8.ownsRow (Q + 1) 43 2 v8 (ps.length + 1) (ps.flatMap encP ++ [.int .i64 x.1, .int .i64 x.2])) (hg : wr.grownBy w8 v.ownBlock) :
    AS w b Q zs n (w8.setCell ⟨Q, 1, none⟩ v8) v8 (ps ++ [x]) := by
  have hOB : ∀ g, v.ownBlock = some g → Q + 1 ≤ g := fun g e => (owns_blk h.own g e).1
  have hbq := h.bq; have hsz := h.sz
  have hQ := (hg.block Q (lt_of_block h.box) (fun e => by have := hOB _ e.symm; omega)).trans h.box
  have hO : OwnP w8 (Q + 1) v8 (ps ++ [x]) := OwnP.snoc hown
  obtain ⟨k, hs⟩ := h.src
  refine ⟨h.bq, h.sz, ?_, owns_kept hO fun g e => ?_, ⟨k, (hs.kept hg (fun g e => by have := hOB g e; exact ⟨by omega, by omega⟩)).setCell ⟨Q, 1, none⟩ v8 (by show b ≤ Q; omega) (by show Q ≠ b; omega)⟩, ?_, fun p hp => ?_⟩
  · have := set_cells (i := 1) (u := v8) hQ
    simpa using this
  · have hge := (owns_blk hO g e).1
    exact Below.heap_setCell w8 ⟨Q, 1, none⟩ _ g (by show g ≠ Q; omega)
  · have h1 : w.grownBy w8 (some b) := ⟨hg.os.trans h.gr.os, hg.tape.trans h.gr.tape, hg.output.trans h.gr.output, Nat.le_trans h.gr.size hg.size, fun i hi hne => (hg.block i (Nat.lt_of_lt_of_le hi h.gr.size) (fun e => by have := hOB _ e.symm; omega)).trans (h.gr.block i hi hne)⟩
    exact only_setCell h1 (.inr (by show w.heap.size ≤ Q; omega)) v8
  · rcases List.mem_append.1 hp with hp | hp
    · exact h.up p hp
    · rw [List.mem_singleton] at hp; subst hp; exact hx

set_option maxRecDepth 100000 in
set_option maxHeartbeats 4000000 in
theorem acyclic_walk (lv : Value) (zs : List Int) (w : World) (hz : IntsAt w w.heap.size lv zs) :
    Calls Try.prog 7 #[lv] w fun e w' => e = .returned (.bool true) ∧ Below w.heap.size w w' := by
  have HZ := hidIt hz
  clear hz
  go_enter Try.func7, Try.ntmps7
  go_wp2_with fail
  refine (new_any lv zs w.heap.size w HZ.out (Nat.le_refl _)).mono ?_
  rintro e w1 ⟨zs', rfl, hs1, o1, rfl⟩
  have HS1 := hidIt hs1
  have HB1 := hidIt (bgrow w o1)
  have hsz1 : w.heap.size < (w.alloc o1).heap.size := hs1.lt
  clear hs1
  generalize w.alloc o1 = w1 at *
  obtain ⟨b0, hb0⟩ : ∃ b0, b0 = w.heap.size := ⟨_, rfl⟩
  have Hb0 := hidIt hb0
  rw [← hb0] at HS1 hsz1 ⊢
  clear hb0
  go_wp2_with fail
  refine (sn_nat 7 (by decide) (by decide) b0 b0 zs' 0 w1 HS1.out).mono ?_
  rintro e w2 ⟨N, k2, rfl, hN, hs2, hg2⟩
  have hN6 : N ≤ 6 := by omega
  have hgr := bgrow w2 (.cells #[.int .i64 (N : Int), .slice none 0 0] 27)
  have HA3 : Hid (AS w1 b0 w2.heap.size zs' (N : Int) (w2.alloc (.cells #[.int .i64 (N : Int), .slice none 0 0] 27)) (.slice none 0 0) []) :=
    ⟨hs2.lt, hg2.size, heap_alloc_new w2 _, OwnP.nil _ _, ⟨k2, hs2.alloc _⟩, only_alloc hg2 _, fun p h => (by cases h)⟩
  clear hs2 hg2 hgr HS1 hN
  go_upto_region 3 with (fail)
  generalize (w2.alloc (.cells #[.int .i64 (N : Int), .slice none 0 0] 27)) = w3 at *
  generalize w2.heap.size = Q at *
  go_wp2_with fail
  go_loopw [5, 6] (fun vf _ wr => ∃ (f : Nat) (ps : List (Int × Int)) (a : Option Addr) (c : Nat), vf = .int .i64 (f : Int) ∧ f ≤ N ∧ Hid (Gen N f 0 ps) ∧ Hid (AS w1 b0 Q zs' (N : Int) wr (.slice a ps.length c) ps)) (fun vf _ _ => N - (intOf vf).toNat)
  case atStart => exact ⟨0, [], none, 0, (by first | rfl | trivial), Nat.zero_le _, Gen.nil N, HA3.out⟩
  case round =>
    clear HA3
    obtain ⟨f, ps0, a0, c0, rfl, hf, HGen0, HGS0⟩ := hrel
    have hf0 : (0 : Int) ≤ (f : Int) := by omega
    obtain ⟨x0, x1⟩ := And.intro (cell_two0 HGS0.out.box) (cell_two1 HGS0.out.box)
    have lx := lt_of_block HGS0.out.box
    by_cases hfl : f < N
    · have hfI : (f : Int) < (N : Int) := by omega
      have hw1 : IntKind.i64.wrap ((f : Int) + 1) = (f : Int) + 1 := IntWalk.i64_in _ (by omega)
      go_wp2_with fail
      clear x0 x1 lx
      go_loopw [6] (fun vt wr => ∃ (t : Nat) (ps : List (Int × Int)) (a : Option Addr) (c : Nat), vt = .int .i64 (t : Int) ∧ f + 1 ≤ t ∧ t ≤ N ∧ Hid (Gen N f t ps) ∧ Hid (AS w1 b0 Q zs' (N : Int) wr (.slice a ps.length c) ps)) (fun vt _ => N - (intOf vt).toNat)
      case atStart => exact ⟨f + 1, ps0, a0, c0, by go_num, Nat.le_refl _, hfl, HGen0.out.to (Nat.zero_le _), HGS0.out⟩
      case round =>
        clear HGen0 HGS0
        obtain ⟨t, ps, a, c, rfl, hft, ht, HGen, HG⟩ := hrel
        have ht0 : (0 : Int) ≤ (t : Int) := by omega
        obtain ⟨x0, x1⟩ := And.intro (cell_two0 HG.out.box) (cell_two1 HG.out.box)
        have lx := lt_of_block HG.out.box
        by_cases htl : t < N
        · have htI : (t : Int) < (N : Int) := by omega
          obtain ⟨k5, hs5⟩ := HG.out.src
          have HS5 := hidIt hs5
          clear hs5
          go_wp2_with fail
          refine (sn_nat 3 (by decide) (by decide) b0 b0 zs' k5 _ HS5.out).mono ?_
          rintro e w6 ⟨z, k6, rfl, hz, hs6, hg6⟩
          have HG6 := hidIt (HG.out.call hs6 hg6)
          have HSK := hidIt HGen.out.skip
          have HAD := hidIt (HGen.out.add hfl htl)
          have hpl : ps.length ≤ 1000 := by
            have h1 := HGen.out.len
            have h2 : f * N ≤ 6 * 6 := Nat.mul_le_mul (by omega) hN6
            omega
          clear hs6 hg6 HG HS5 x0 x1 lx
          by_cases hz0 : z = 0
          rotate_left
          · have hzb : ((z : Int) == 0) = false := beq_eq_false_iff_ne.2 (by omega)
            clear hz0
            go_wp2_with fail
            go_roundw
            case rel => exact ⟨t + 1, ps, a, c, by go_num, by omega, by omega, HSK.out, HG6.out⟩
            case measure => simp [intOf]; omega
          subst hz0
          obtain ⟨x0, x1⟩ := And.intro (cell_two0 HG6.out.box) (cell_two1 HG6.out.box)
          have lx := lt_of_block HG6.out.box
          have HG7 := hidIt (HG6.out.go (bgrow w6 (.cells #[.int .i64 (f : Int), .int .i64 (t : Int)] 43)))
          have hsz7 := HG7.out.lt
          obtain ⟨L, hL⟩ : ∃ L, L = ps.length := ⟨_, rfl⟩
          have HLL := hidIt hL
          rw [← hL] at hpl x1 HG7
          have HO7 : Hid (World.ownsRow (w6.alloc (.cells #[.int .i64 (f : Int), .int .i64 (t : Int)] 43)) (Q + 1) 43 2 (.slice a L c) L (ps.flatMap encP)) := by
            have h := HG7.out.own
            unfold OwnP at h
            rw [← HLL.out] at h
            exact h
          clear hL
          go_wp2_with (at_builtin; refine Hid.out ?_)
          refine hidIt ?_
          refine wpList_append_kb rfl _ _ elemP rfl (Q + 1) (.slice a L c) L _ rfl HO7.out _ 1 rfl #[.int .i64 (f : Int), .int .i64 (t : Int)] 43 (heap_alloc_new _ _) rfl (one_of (by rfl)) (by omega) hsz7 ?_
          intro g8 c8 w8 hown8 hg8 hbl8
          have HL8 : Hid ((ps ++ [((f : Int), (t : Int))]).length = L + 1) := by show _ = _; rw [List.length_append, HLL.out]; rfl
          have HG8 : Hid (AS w1 b0 Q zs' (N : Int) (w8.setCell ⟨Q, 1, none⟩ (.slice (some ⟨g8, 0, none⟩) (L + 1) c8)) (.slice (some ⟨g8, 0, none⟩) (L + 1) c8) (ps ++ [((f : Int), (t : Int))])) :=
            AS.app (x := ((f : Int), (t : Int))) HG7.out (by show (f : Int) < (t : Int); omega) (by rw [← HLL.out]; exact hown8) hg8
          have hOB : ∀ g, (Value.slice a L c).ownBlock = some g → Q + 1 ≤ g := fun g e => (owns_blk HO7.out g e).1
          have hQ8 := (hg8.block Q (lt_of_block HG7.out.box) (fun e => by have := hOB _ e.symm; omega)).trans HG7.out.box
          have k0 := cell_two0 hQ8
          have k1 := cell_two1 hQ8
          have lk := lt_of_block hQ8
          have f8 := free_any hQ8 1
          clear hown8 hg8 hbl8 hOB HO7 HG7 HG6 hsz7 hQ8 x0 x1 lx
          go_wp2_with fail
          go_roundw
          case rel => exact ⟨t + 1, ps ++ [((f : Int), (t : Int))], some ⟨g8, 0, none⟩, c8, by go_num, by omega, by omega, HAD.out, (by rw [HL8.out]; exact HG8.out)⟩
          case measure => simp [intOf]; omega
        · obtain rfl : t = N := by omega
          have htI : ¬ (t : Int) < (t : Int) := by omega
          have HRW := hidIt HGen.out.row
          go_wp2_with fail
          go_roundw
          case rel => exact ⟨f + 1, ps, a, c, by go_num, by omega, HRW.out, HG.out⟩
          case measure => simp [intOf]; omega
    · obtain rfl : f = N := by omega
      have hfI : ¬ (f : Int) < (f : Int) := by omega
      have hpl : ps0.length ≤ 1000 := by
        have h1 := HGen0.out.len
        have h2 : f * f ≤ 6 * 6 := Nat.mul_le_mul hN6 hN6
        omega
      have HOK := hidIt (HGen0.out.ok (by omega))
      obtain ⟨lab, rk, hsp⟩ := gspec_ex HOK.out
      have HSP := hidIt hsp
      have HN3 : Hid (∀ i, i < f → lab.getD i 0 ≠ 3) := up_decided HOK.out.ix hsp (fun k i hk => by have := HGS0.out.up _ hk; simp only at this; omega)
      have HLAB := hidIt hsp.ll
      have HNI : Hid (decide ((3 : Int) ∈ lab) = false) := decide_eq_false fun hm => by
        obtain ⟨i, hi, he⟩ := List.getElem_of_mem hm
        exact HN3.out i (by rw [← HLAB.out]; exact hi) (by rw [getD_at hi]; exact he)
      have HPS := hidIt hpl
      have HX3 := hidIt HGS0.out.box
      have HO3 := hidIt HGS0.out.own.at_
      have HB3 : Hid (Below w.heap.size w wr) := below_read HB1.out (by rw [← Hb0.out]; exact HGS0.out.gr) (by rw [← Hb0.out]; exact Nat.le_of_lt hsz1)
      clear HGS0 HGen0 hsp hpl
      generalize wr = w3 at *
      go_wp2_with fail
      refine (uLabel_rel HO3.out HOK.out (by have := HPS.out; omega) HSP.out).mono ?_
      rintro e w4 ⟨u, rfl, ⟨L, rfl, hl⟩, hb4⟩
      have HL4 := hidIt (hl.ilN HLAB.out (by omega))
      have HO4 := hidIt (HO3.out.below hb4)
      have HX4 := hidIt (blk_kept2 HX3.out hb4)
      have HB4 := hidIt (HB3.out.trans (Below.mono hb4 HB3.out.size))
      have hne : ((f : Int) != (f : Int)) = false := bne_self_eq_false _
      clear hl hb4 HO3 HX3 HB3 x0 x1 lx
      obtain ⟨x0, x1⟩ := And.intro (cell_two0 HX4.out) (cell_two1 HX4.out)
      have lx := lt_of_block HX4.out
      go_wp2_with fail
      refine (kIn_any _ lab 3 w4 HL4.out (by have := HLAB.out; omega)).mono ?_
      rw [HNI.out]
      rintro e w5 ⟨rfl, rfl⟩
      go_wp2_with fail
      refine (rlLabellings_any f (by omega) _).mono ?_
      rintro e w6 ⟨zss, la, lc, rfl, hll, hsh, hzl, hb6⟩
      have HSH := hidIt hsh
      have HL6 := hidIt (HL4.out.below hb6)
      have HO6 := hidIt (HO4.out.below hb6)
      have HX6 := hidIt (blk_kept2 HX4.out hb6)
      have HB6 := hidIt (HB4.out.trans (Below.mono hb6 HB4.out.size))
      obtain ⟨la', lc', hle, hcs⟩ := hll.form
      injection hle with hle1 hle2 hle3
      subst hle1 hle3
      have HLC := hidIt hcs
      obtain ⟨M, hM⟩ : ∃ M, M = zss.length := ⟨_, rfl⟩
      have HM := hidIt hM
      have hM729 : M ≤ 729 := by omega
      rw [← hM]
      clear hsh hll hb6 hzl hle2 hcs hM HO4 HX4 HB4 HL4 x0 x1 lx hne
      go_wp2_with fail
      go_loopw [9, 55] (fun _ i wr => ∃ k : Nat, k ≤ M ∧ i = .int .i64 k ∧ Hid (Below w6.heap.size w6 wr)) (fun _ i _ => M - (intOf i).toNat)
      case atStart => exact ⟨0, Nat.zero_le _, (by first | rfl | trivial), Below.refl _ _⟩
      case round =>
        obtain ⟨k, hk, rfl, HB⟩ := hrel
        have hk0 : (0 : Int) ≤ (k : Int) := by omega
        by_cases hlt : k < M
        · have hkI : (k : Int) < (M : Int) := by omega
          have hkz : k < zss.length := by have := HM.out; omega
          obtain ⟨bo, oo, u, rfl, lo, cu, iu⟩ := HLC.out k hkz
          have cu2 := (Below.cell (p := ⟨bo, oo + k, none⟩) HB.out lo).trans cu
          have lo2 := Nat.lt_of_lt_of_le lo HB.out.size
          have HIX := hidIt (iu.below HB.out)
          have HXN : Hid (zss[k].length ≤ 1000) := by show _ ≤ _; have := HSH.out k hkz; omega
          generalize zss[k] = y at *
          obtain ⟨xa, xc, rfl, -⟩ := HIX.out.form
          clear cu iu lo hkz
          have HXr := hidIt (blk_kept2 HX6.out HB.out)
          have HOr := hidIt (HO6.out.below HB.out)
          have HLr := hidIt (HL6.out.below HB.out)
          obtain ⟨x0, x1⟩ := And.intro (cell_two0 HXr.out) (cell_two1 HXr.out)
          have lx := lt_of_block HXr.out
          have HC := hidIt (lIsComplete_any f _ _ ps0 y wr HOr.out HOK.out HPS.out HIX.out HXN.out)
          change Hid (Calls _ _ _ _ fun e w' => e = .returned (.bool (compB f ps0 y)) ∧ _) at HC
          have hEQ : compB f ps0 y = decide (lab = y) := by
            rw [Bool.eq_iff_iff, decide_eq_true_eq]
            constructor
            · intro h
              exact only_complete HOK.out.ix HSP.out HN3.out ((comp_iff HOK.out.ix).1 h)
            · intro h
              rw [← h]
              exact (comp_iff HOK.out.ix).2 HSP.out.complete
          rw [hEQ] at HC
          generalize hD : decide (lab = y) = D at *
          have HD := hidIt hD
          clear hEQ hD
          go_wp2_with fail
          refine HC.out.mono ?_
          rintro e w7 ⟨rfl, hb7⟩
          have HB7 := hidIt (HB.out.trans (Below.mono hb7 HB.out.size))
          have HL7 := hidIt (HLr.out.below hb7)
          have HI7 := hidIt (HIX.out.below hb7)
          clear hb7 HC x0 x1 lx HXr HOr HLr HIX cu2 lo2 HB
          go_wp2_with fail
          refine (kInts_any _ _ lab y w7 HL7.out HI7.out (by have := HLAB.out; omega) (by have := HXN.out; omega)).mono ?_
          rw [HD.out]
          rintro e w8 ⟨rfl, hb8⟩
          have HB8 := hidIt (HB7.out.trans (Below.mono hb8 HB7.out.size))
          have hDD : (D != D) = false := bne_self_eq_false _
          clear hb8
          go_wp2_with fail
          go_roundw
          case rel => exact ⟨k + 1, by omega, by go_num, HB8.out⟩
          case measure => simp [intOf]; omega
        · obtain rfl : k = M := by omega
          have hkI : ¬ (k : Int) < (k : Int) := by omega
          go_wp2_with fail
          refine (awake12_any _).mono ?_
          rintro e w30 ⟨rfl, hb⟩
          have HBF := hidIt ((HB6.out.trans (Below.mono HB.out HB6.out.size)).trans (Below.mono hb (Nat.le_trans HB6.out.size HB.out.size)))
          clear hb
          go_wp2_with fail
          go_ret
          exact ⟨rfl, HBF.out⟩
end Go.Proofs.Ytghnojmaciljoaa
