/- The law AttackGraphs: where the chapter's examples answer true, the call answers true, for every number, attacks and numbers. -/
import Derived.Test.YtplkkkkcmfgkfaaGreatG9T
import Derived.Test.YtplkkkkcmfgkfaaGreatNew
import Derived.Test.YtplkkkkcmfgkfaaGreatG9S
namespace Go.Proofs.YtplkkkkcmfgkfaaGreat
set_option linter.unusedVariables false
set_option linter.unusedSimpArgs false
open Go Go.RowKit Go.Sort

theorem both_graphs (n : Int) (xs : List At4) (hn : -9223372036854775808 ≤ n ∧ n ≤ 9223372036854775807) (hl : xs.length ≤ 1000) : ∃ (gn ge : Int) (ps : List (Int × Int)), ps.length ≤ 1000000 ∧
    (∀ w v, AtsAt w v xs → Calls Tryz.prog 7 #[.int .i64 n, v] w fun e w' => ∃ (a : Option Addr) (c : Nat), e = .returned (.tuple #[.agg #[.int .i64 gn, .slice a ps.length c], .int .i64 ge]) ∧ PairsAt w' (.slice a ps.length c) ps ∧ Below w.heap.size w w') ∧
    (∀ w v, AtsAt w v xs → Calls Tryz.prog 8 #[.int .i64 n, v] w fun e w' => ∃ (a : Option Addr) (c : Nat), e = .returned (.tuple #[.agg #[.int .i64 gn, .slice a ps.length c], .int .i64 ge]) ∧ PairsAt w' (.slice a ps.length c) ps ∧ Below w.heap.size w w') := by
  refine ⟨if gOk n xs = true then n else 0, if gOk n xs = true then 0 else 1, if gOk n xs = true then nrm (prs xs) else [], ?_, fun w v h => ?_, fun w v h => ?_⟩
  · have h1 := nrm_len (prs xs)
    have h2 : (prs xs).length = xs.length := by unfold prs; rw [List.length_map]
    split
    · omega
    · exact Nat.zero_le _
  · refine (graph_any n v xs hn hl w h).mono ?_
    rintro e w' ⟨gv, rfl, hp, hb⟩
    obtain ⟨a, c, rfl, -⟩ := hp.form
    exact ⟨a, c, rfl, hp, hb⟩
  · refine (r9graph_any n v xs hn hl w h).mono ?_
    rintro e w' ⟨gv, rfl, hp, hb⟩
    obtain ⟨a, c, rfl, -⟩ := hp.form
    exact ⟨a, c, rfl, hp, hb⟩

theorem OwnA.read {w w' : World} {B b : Nat} {v : Value} {xs : List At4} (h : OwnA w B v xs) (hg : w.grownBy w' (some b)) (hb : b < B) : OwnA w' B v xs :=
  owns_kept h fun g e => hg.block g (owns_blk h g e).2 (fun e2 => by injection e2 with e2; have := (owns_blk h g e).1; omega)
theorem OwnA.go {w w' : World} {B : Nat} {v : Value} {xs : List At4} (h : OwnA w B v xs) (hb : Below w.heap.size w w') : OwnA w' B v xs := owns_kept h fun g e => hb.block g (owns_blk h g e).2
theorem below_read {w a a' : World} {b : Nat} (h : Below b w a) (hg : a.grownBy a' (some b)) (hna : b ≤ a.heap.size) : Below b w a' := below_app5 h hg (fun g e => by injection e with e; omega) hna
theorem AtsAt.shape {w : World} {v : Value} {xs : List At4} (h : AtsAt w v xs) : ∃ (a : Option Addr) (c : Nat), v = .slice a xs.length c := by
  rcases h with ⟨rfl, rfl⟩ | ⟨b, off, cap, rfl, -⟩
  · exact ⟨none, 0, rfl⟩
  · exact ⟨_, cap, rfl⟩
theorem four_cell {w : World} {R : Nat} {p q r s : Int} {t : TypeId} (h : w.heap[R]? = some (.cells #[.int .i64 p, .int .i64 q, .int .i64 r, .int .i64 s] t (0, 0))) (P : Int → Prop) (hp : P p) (hq : P q) (hr : P r) (hs : P s) (k : Nat) (hk : k < 4) :
    ∃ m : Int, P m ∧ w.cell? ⟨R, k, none⟩ = some (.int .i64 m) := by
  rcases k with _ | _ | _ | _ | k
  · exact ⟨p, hp, by simp [World.cell?, h]⟩
  · exact ⟨q, hq, by simp [World.cell?, h]⟩
  · exact ⟨r, hr, by simp [World.cell?, h]⟩
  · exact ⟨s, hs, by simp [World.cell?, h]⟩
  · omega

set_option maxRecDepth 100000 in
set_option maxHeartbeats 4000000 in
theorem graphs_walk (haw : ∀ w, Calls Tryz.prog 10 #[] w fun e w' => e = .returned (.bool true) ∧ Below w.heap.size w w') (n : Int) (hn : -9223372036854775808 ≤ n ∧ n ≤ 9223372036854775807) (rv lv : Value) (raw : List At4) (zs : List Int) (w : World) (hr : AtsAt w rv raw) (hz : IntsAt w w.heap.size lv zs) :
    Calls Tryz.prog 3 #[.int .i64 n, rv, lv] w fun e w' => e = .returned (.bool true) ∧ Below w.heap.size w w' := by
  have HAW := hidIt haw
  have HN := hidIt hn
  have HST0 := hidIt (hr.stays (Nat.le_refl w.heap.size))
  have HZ := hidIt hz
  obtain ⟨ra, rc, rfl⟩ := hr.shape
  obtain ⟨N, hN⟩ : ∃ N, N = raw.length := ⟨_, rfl⟩
  have HRL := hidIt hN
  rw [← hN] at HST0 ⊢
  clear hN hr hz haw hn
  by_cases hbig : 60 < N
  · have hbigI : (60 : Int) < (N : Int) := by omega
    go_enter Tryz.func3, Tryz.ntmps3
    go_wp2_with fail
    go_ret
    exact ⟨rfl, Below.refl _ _⟩
  have hbigI : ¬ (60 : Int) < (N : Int) := by omega
  go_enter Tryz.func3, Tryz.ntmps3
  go_wp2_with fail
  refine (new_any lv zs w.heap.size w HZ.out (Nat.le_refl _)).mono ?_
  rintro e w1 ⟨zs', rfl, hs1, o1, rfl⟩
  have HS1 := hidIt hs1
  have HB1 := hidIt (bgrow w o1)
  clear hs1
  generalize w.alloc o1 = w1 at *
  go_wp2_with fail
  refine (sn_any 20 (by decide) (by decide) _ _ _ _ _ HS1.out).mono ?_
  rintro e w2 ⟨c0, k0, rfl, hc0, hs2, hg2⟩
  have HS2 := hidIt hs2
  have HB2 := hidIt (below_read HB1.out hg2 HB1.out.size)
  obtain ⟨hc1, hc2⟩ := hc0
  clear hs2 hg2 HS1 HB1 HZ
  go_wp2_with fail
  go_loopw [8, 9] (fun v8 v9 wr => ∃ (xs : List At4) (pa : Option Addr) (pc : Nat) (c : Int) (kk : Nat), v8 = .slice pa xs.length pc ∧ v9 = .int .i64 c ∧ 0 ≤ c ∧ c ≤ 20 ∧ Hid (xs.length + c.toNat ≤ 20) ∧ Hid (OwnA wr (w.heap.size + 1) (.slice pa xs.length pc) xs) ∧ Hid (SrcAt wr w.heap.size w.heap.size zs' kk) ∧ Hid (Below w.heap.size w wr)) (fun _ v9 _ => (intOf v9).toNat)
  case atStart => exact ⟨[], none, 0, c0, k0, rfl, rfl, hc1, by omega, (by show ([] : List At4).length + c0.toNat ≤ 20; simp; omega), OwnA.nil _ _, HS2.out, HB2.out⟩
  case round =>
    clear HS2 HB2 hc1 hc2
    obtain ⟨xs, pa, pc, c, kk, rfl, rfl, hc1, hc2, HLN, HOW, HS, HB⟩ := hrel
    by_cases hpos : 0 < c
    · have HNX : Hid (xs.length ≤ 20) := by have := HLN.out; show _ ≤ _; omega
      obtain ⟨M, hM⟩ : ∃ M, M = xs.length := ⟨_, rfl⟩
      have HM := hidIt hM
      rw [← hM] at HOW ⊢
      clear hM
      go_wp2_with fail
      refine (sn_any 8 (by decide) (by decide) _ _ _ _ _ HS.out).mono ?_
      rintro e w3 ⟨z1, k1, rfl, -, hs3, hg3⟩
      have HS3 := hidIt hs3
      have HG3 := hidIt hg3
      clear hs3 hg3
      go_wp2_with fail
      refine (sn_any 8 (by decide) (by decide) _ _ _ _ _ HS3.out).mono ?_
      rintro e w4 ⟨z2, k2, rfl, -, hs4, hg4⟩
      have HS4 := hidIt hs4
      have HG4 := hidIt (only_trans HG3.out hg4)
      clear hs4 hg4 HS3 HG3
      go_wp2_with fail
      refine (sn_any 3 (by decide) (by decide) _ _ _ _ _ HS4.out).mono ?_
      rintro e w5 ⟨z3, k3, rfl, -, hs5, hg5⟩
      have HS5 := hidIt hs5
      have HG5 := hidIt (only_trans HG4.out hg5)
      clear hs5 hg5 HS4 HG4
      go_wp2_with fail
      refine (sn_any 3 (by decide) (by decide) _ _ _ _ _ HS5.out).mono ?_
      rintro e w6 ⟨z4, k4, rfl, hz4, hs6, hg6⟩
      have HG6 := hidIt (only_trans HG5.out hg6)
      have HB6 := hidIt (below_read HB.out HG6.out HB.out.size)
      have HO6 := hidIt (HOW.out.read HG6.out (Nat.lt_succ_self _))
      have HS6 := hidIt hs6
      clear hs6 hg6 HS5 HG5 HOW HB HS HG6
      obtain ⟨hz41, hz42⟩ := hz4
      have hgr := bgrow w6 (.cells #[.int .i64 z1, .int .i64 z2, .int .i64 z3, .int .i64 (1 + z4)] 28)
      have HO7 : Hid (World.ownsRow (w6.alloc (.cells #[.int .i64 z1, .int .i64 z2, .int .i64 z3, .int .i64 (1 + z4)] 28)) (w.heap.size + 1) 28 4 (.slice pa M pc) M (xs.flatMap encA)) := by
        have := HO6.out.go hgr
        unfold OwnA at this
        rw [← HM.out] at this
        exact this
      have HS7 := hidIt (HS6.out.alloc (.cells #[.int .i64 z1, .int .i64 z2, .int .i64 z3, .int .i64 (1 + z4)] 28))
      have HB7 := hidIt (HB6.out.trans (Below.mono hgr HB6.out.size))
      have hsz7 : w.heap.size + 1 ≤ (w6.alloc (.cells #[.int .i64 z1, .int .i64 z2, .int .i64 z3, .int .i64 (1 + z4)] 28)).heap.size := HS7.out.lt
      have hM20 : M ≤ 20 := by rw [HM.out]; exact HNX.out
      clear hgr HO6 HS6 HB6
      go_wp2_with (at_builtin; refine Hid.out ?_)
      refine hidIt ?_
      refine wpList_append_kb rfl _ _ elemA rfl (w.heap.size + 1) (.slice pa M pc) M _ rfl HO7.out _ 1 rfl #[.int .i64 z1, .int .i64 z2, .int .i64 z3, .int .i64 (1 + z4)] 28 (heap_alloc_new _ _) rfl (one_of (by rfl)) (by omega) hsz7 ?_
      intro g8 c8 w8 hown8 hg8 hbl8
      have hOB : ∀ g, (Value.slice pa M pc).ownBlock = some g → w.heap.size + 1 ≤ g := fun g e => (owns_blk HO7.out g e).1
      have HS8 := hidIt (HS7.out.kept hg8 (fun g e => ⟨by have := hOB g e; omega, by have := hOB g e; omega⟩))
      have HB8 := hidIt (below_app5 HB7.out hg8 (fun g e => by have := hOB g e; omega) (by omega))
      have HL8 : Hid ((xs ++ [(⟨z1, z2, z3, 1 + z4⟩ : At4)]).length = M + 1) := by show _ = _; rw [List.length_append, HM.out]; rfl
      have HO8 : Hid (OwnA w8 (w.heap.size + 1) (.slice (some ⟨g8, 0, none⟩) (M + 1) c8) (xs ++ [(⟨z1, z2, z3, 1 + z4⟩ : At4)])) := by
        show World.ownsRow _ _ _ _ _ _ _
        rw [HL8.out, List.flatMap_append]
        exact hown8
      clear hown8 hg8 hbl8 hOB HO7 HS7 HB7 hsz7
      go_wp2_with fail
      go_roundw
      case rel => exact ⟨xs ++ [(⟨z1, z2, z3, 1 + z4⟩ : At4)], some ⟨g8, 0, none⟩, c8, c - 1, k4, (by rw [HL8.out]), by go_num, by omega, by omega, (by have := HLN.out; have := HL8.out; have := HM.out; show _ ≤ _; omega), (by rw [HL8.out]; exact HO8.out), HS8.out, HB8.out⟩
      case measure => simp [intOf]; omega
    · obtain ⟨M, hM⟩ : ∃ M, M = xs.length := ⟨_, rfl⟩
      have HM := hidIt hM
      rw [← hM] at HOW ⊢
      clear hM
      have HNX : Hid (xs.length ≤ 1000) := by have := HLN.out; show _ ≤ _; omega
      have HSR := hidIt (HST0.out.go (only_of_below HB.out _))
      have HSG := hidIt (HOW.out.stays (Nat.lt_succ_self _))
      have hgr := bgrow wr (.cells #[.slice ra N rc, .slice pa M pc] 22)
      have HSR1 := hidIt (HSR.out.go (only_of_below hgr _))
      have HSG1 := hidIt (HSG.out.go (only_of_below hgr _))
      have HS1 := hidIt (HS.out.alloc (.cells #[.slice ra N rc, .slice pa M pc] 22))
      have HB1 := hidIt (HB.out.trans (Below.mono hgr HB.out.size))
      have HQ := hidIt (heap_alloc_new wr (.cells #[.slice ra N rc, .slice pa M pc] 22))
      have HQb : Hid (wr.heap.size ≠ w.heap.size) := by have := HS.out.lt; show _ ≠ _; omega
      clear hgr HSR HSG HS HB HOW HST0
      go_upto_region 10 with (fail)
      generalize (wr.alloc (.cells #[.slice ra N rc, .slice pa M pc] 22)) = wz at *
      generalize wr.heap.size = Q at *
      go_loopw [46] (fun v46 wr => ∃ (k kk : Nat), v46 = .int .i64 (k : Int) ∧ k ≤ 2 ∧ Hid (SrcAt wr w.heap.size w.heap.size zs' kk) ∧ Hid (wz.grownBy wr (some w.heap.size))) (fun v46 _ => 2 - (intOf v46).toNat)
      case atStart => exact ⟨0, _, rfl, by omega, HS1.out, only_refl _ _⟩
      case round =>
        clear HS1
        obtain ⟨k, kk, rfl, hk, HS, HG⟩ := hrel
        by_cases hlt : k < 2
        · have hkI : (k : Int) < 2 := by omega
          have hk0 : (0 : Int) ≤ (k : Int) := by omega
          obtain ⟨xa, xn, xc, xl, hc, hsx, hxl⟩ : ∃ (xa : Option Addr) (xn xc : Nat) (xl : List At4), wr.cell? ⟨Q, k, none⟩ = some (.slice xa xn xc) ∧ Stays wr w.heap.size (.slice xa xn xc) xl ∧ xl.length ≤ 1000 := by
            have hq : wr.heap[Q]? = _ := (HG.out.block Q (lt_of_block HQ.out) (fun e => HQb.out (by injection e))).trans HQ.out
            rcases k with _ | _ | k
            · exact ⟨ra, N, rc, raw, cell_two0 hq, HSR1.out.go HG.out, by rw [← HRL.out]; omega⟩
            · exact ⟨pa, M, pc, xs, cell_two1 hq, HSG1.out.go HG.out, HNX.out⟩
            · omega
          have HSX := hidIt hsx
          have HXL := hidIt hxl
          have hQ : Q < wr.heap.size := Nat.lt_of_lt_of_le (lt_of_block HQ.out) HG.out.size
          clear hsx hxl
          go_wp2_with fail
          refine (sn_any 9 (by decide) (by decide) _ _ _ _ _ HS.out).mono ?_
          rintro e w3 ⟨z, k3, rfl, hz3, hs3, hg3⟩
          have HZ3 := hidIt hz3
          have hgr := bgrow w3 (.cells #[.int .i64 (-1), .int .i64 40, .int .i64 41] 3)
          have HS3 := hidIt (hs3.alloc (.cells #[.int .i64 (-1), .int .i64 40, .int .i64 41] 3))
          have HG3 := hidIt (only_trans (only_trans HG.out hg3) (only_of_below hgr _))
          have HSX3 := hidIt ((HSX.out.go hg3).go (only_of_below hgr _))
          have HL3 := hidIt (heap_alloc_new w3 (.cells #[.int .i64 (-1), .int .i64 40, .int .i64 41] 3))
          have HL3b : Hid (w3.heap.size ≠ w.heap.size) := by have := hs3.lt; show _ ≠ _; omega
          clear hz3 hgr hs3 hg3 HS HG HSX hQ hc
          go_wp2_with fail
          refine (pick_any w3.heap.size [-1, 40, 41] 3 (by decide) (by decide) _ _ _ _ _ HS3.out HL3.out HL3b.out).mono ?_
          rintro e w4 ⟨s, k4, rfl, hsm, hs4, hg4⟩
          have HSM : Hid (-9223372036854775808 ≤ s ∧ s ≤ 9223372036854775807) := by
            simp only [List.mem_cons, List.not_mem_nil, or_false] at hsm
            show _ ∧ _
            omega
          have hgr := bgrow w4 (.cells #[.int .i64 n, .int .i64 8, .int .i64 z, .int .i64 s] 3)
          have HS4 := hidIt (hs4.alloc (.cells #[.int .i64 n, .int .i64 8, .int .i64 z, .int .i64 s] 3))
          have HG4 := hidIt (only_trans (only_trans HG3.out hg4) (only_of_below hgr _))
          have HSX4 := hidIt ((HSX3.out.go hg4).go (only_of_below hgr _))
          have HL4 := hidIt (heap_alloc_new w4 (.cells #[.int .i64 n, .int .i64 8, .int .i64 z, .int .i64 s] 3))
          clear hsm hgr hs4 hg4 HS3 HG3 HSX3 HL3 HL3b
          go_upto_region 13 with (fail)
          generalize (w4.alloc (.cells #[.int .i64 n, .int .i64 8, .int .i64 z, .int .i64 s] 3)) = wy at *
          generalize w4.heap.size = R at *
          go_loopw [58] (fun v58 wr => ∃ (k2 : Nat), v58 = .int .i64 (k2 : Int) ∧ k2 ≤ 4 ∧ Hid (Below wy.heap.size wy wr)) (fun v58 _ => 4 - (intOf v58).toNat)
          case atStart => exact ⟨0, rfl, by omega, Below.refl _ _⟩
          case round =>
            obtain ⟨k2, rfl, hk2, HB⟩ := hrel
            by_cases hlt2 : k2 < 4
            · have hk2I : (k2 : Int) < 4 := by omega
              have hk20 : (0 : Int) ≤ (k2 : Int) := by omega
              obtain ⟨m, hm, hcm⟩ := four_cell (blk_kept2 HL4.out HB.out) (fun m => -9223372036854775808 ≤ m ∧ m ≤ 9223372036854775807) HN.out (by decide) (by have := HZ3.out; omega) HSM.out k2 hlt2
              obtain ⟨gn, ge, ps, hps, hA, hR⟩ := both_graphs m xl hm HXL.out
              have HA := hidIt hA
              have HR := hidIt hR
              have HPS := hidIt hps
              have HX := hidIt (HSX4.out.go (only_of_below HB.out _)).now
              have hlR : R < wr.heap.size := Nat.lt_of_lt_of_le (lt_of_block HL4.out) HB.out.size
              clear hA hR hps hm
              go_wp2_with fail
              refine (HA.out _ _ HX.out).mono ?_
              rintro e w5 ⟨a1, c1, rfl, hp5, hb5⟩
              have hgr := bgrow w5 (.cells #[.int .i64 gn, .slice a1 ps.length c1] 33)
              have HP5 := hidIt (hp5.below hgr)
              have HX5 := hidIt ((HX.out.below hb5).below hgr)
              have HG5 := hidIt (heap_alloc_new w5 (.cells #[.int .i64 gn, .slice a1 ps.length c1] 33))
              have HB5 := hidIt ((HB.out.trans (Below.mono hb5 HB.out.size)).trans (Below.mono hgr (Nat.le_trans HB.out.size hb5.size)))
              clear hp5 hb5 hgr HX HB hlR hcm
              go_upto_region 16 with (fail)
              generalize (w5.alloc (.cells #[.int .i64 gn, .slice a1 ps.length c1] 33)) = w6 at *
              generalize w5.heap.size = P1 at *
              go_wp2_with fail
              refine (HR.out _ _ HX5.out).mono ?_
              rintro e w7 ⟨a2, c2, rfl, hp7, hb7⟩
              have hgr := bgrow w7 (.cells #[.int .i64 gn, .slice a2 ps.length c2] 33)
              have HP8 := hidIt (hp7.below hgr)
              have HP8' := hidIt ((HP5.out.below hb7).below hgr)
              have HG8 := hidIt (heap_alloc_new w7 (.cells #[.int .i64 gn, .slice a2 ps.length c2] 33))
              have HG8' := hidIt (blk_kept2 (blk_kept2 HG5.out hb7) hgr)
              have HB8 := hidIt ((HB5.out.trans (Below.mono hb7 HB5.out.size)).trans (Below.mono hgr (Nat.le_trans HB5.out.size hb7.size)))
              clear hp7 hb7 hgr HX5 HB5 HP5 HG5
              go_upto_region 17 with (fail)
              generalize (w7.alloc (.cells #[.int .i64 gn, .slice a2 ps.length c2] 33)) = w8 at *
              generalize w7.heap.size = P2 at *
              have hee : (ge != ge) = false := bne_self_eq_false _
              have x0 := cell_two0 HG8'.out
              have x1 := cell_two1 HG8'.out
              have lx := lt_of_block HG8'.out
              have y0 := cell_two0 HG8.out
              have y1 := cell_two1 HG8.out
              have ly := lt_of_block HG8.out
              go_wp2_with fail
              refine (sameGraph_true gn _ _ ps _ HP8'.out HP8.out HPS.out).mono ?_
              rintro e w9 ⟨rfl, hb9⟩
              have HB9 := hidIt (HB8.out.trans (Below.mono hb9 HB8.out.size))
              clear hb9
              go_wp2_with fail
              go_roundw
              case rel => exact ⟨k2 + 1, by go_num, hlt2, HB9.out⟩
              case measure => simp [intOf]; omega
            · obtain rfl : k2 = 4 := by omega
              have hk2I : ¬ ((4 : Nat) : Int) < 4 := by omega
              have HS9 := hidIt (HS4.out.grow (only_of_below HB.out none))
              have HG9 := hidIt (only_trans HG4.out (only_of_below HB.out _))
              clear HS4 HG4 HB
              go_wp2_with fail
              go_roundw
              case rel => exact ⟨k + 1, k4, by go_num, hlt, HS9.out, HG9.out⟩
              case measure => simp [intOf]; omega
        · obtain rfl : k = 2 := by omega
          have HBE := hidIt (below_read HB1.out HG.out HB1.out.size)
          have hkI : ¬ ((2 : Nat) : Int) < 2 := by omega
          go_wp2_with fail
          refine (HAW.out _).mono ?_
          rintro e w9 ⟨rfl, hb9⟩
          have HBF := hidIt (HBE.out.trans (Below.mono hb9 HBE.out.size))
          go_wp2_with fail
          go_ret
          exact ⟨rfl, HBF.out⟩
end Go.Proofs.YtplkkkkcmfgkfaaGreat
