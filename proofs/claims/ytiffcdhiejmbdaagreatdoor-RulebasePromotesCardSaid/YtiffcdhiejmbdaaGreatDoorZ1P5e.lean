/- rulebase.Promote, for every rule base and list of literals. -/
import Derived.Test.YtiffcdhiejmbdaaGreatDoorZ1T

namespace Go.Proofs.YtiffcdhiejmbdaaGreatDoor
set_option linter.unusedVariables false
set_option linter.unusedSimpArgs false
open Go Go.RowKit

set_option maxRecDepth 100000 in
set_option maxHeartbeats 8000000 in
theorem bpromote_any (b : Bs) (hok : BsOk b) (xs : List Lt) (hs : Short xs) (v u : Value) (w : World) (hv : BaseAt w v b) (hu : BodyAt w u xs) (hl0 : xs.length ≤ 1000000) (hl2 : b.rules.length ≤ 1000000) (hl1 : b.prems.length ≤ 1000000) (hl3 : b.proms.length ≤ 1000000) (hlb : ∀ r ∈ b.rules, r.body.length ≤ 1000000) :
    Calls Tryz.prog 36 #[v, u] w fun e w' => ∃ v', e = .returned v' ∧ BaseAt w' v' (promB b xs) ∧ Below w.heap.size w w' := by
  obtain ⟨a1, a2, a3, c1, c2, c3, rfl, -, -, -, -, -, -, hp, hr, hq⟩ := hv.form
  obtain ⟨au, cu, rfl, -, -, -⟩ := hu.form
  have HOK := hidIt hok
  have HLB := hidIt hlb
  have hgr := bgrow2 w (.cells #[.slice a1 b.prems.length c1, .slice a2 b.rules.length c2, .slice a3 b.proms.length c3] 26) (.cells #[.slice none 0 0, .slice none 0 0, .slice none 0 0] 26)
  have HB0 := hidIt hgr
  have HP0 := hidIt hp
  have HR0 := hidIt hr
  have HQ0 := hidIt hq
  have HU0 := hidIt (hu.below hgr)
  have hz1 := size_alloc w (.cells #[.slice a1 b.prems.length c1, .slice a2 b.rules.length c2, .slice a3 b.proms.length c3] 26)
  have HK0 := hidIt (blk_kept2 (heap_alloc_new w (.cells #[.slice a1 b.prems.length c1, .slice a2 b.rules.length c2, .slice a3 b.proms.length c3] 26)) (bgrow _ (.cells #[.slice none 0 0, .slice none 0 0, .slice none 0 0] 26)))
  have HZ0 := hidIt (heap_alloc_new (w.alloc (.cells #[.slice a1 b.prems.length c1, .slice a2 b.rules.length c2, .slice a3 b.proms.length c3] 26)) (.cells #[.slice none 0 0, .slice none 0 0, .slice none 0 0] 26))
  rw [hz1] at HZ0
  have hs0 : ((w.alloc (.cells #[.slice a1 b.prems.length c1, .slice a2 b.rules.length c2, .slice a3 b.proms.length c3] 26)).alloc (.cells #[.slice none 0 0, .slice none 0 0, .slice none 0 0] 26)).heap.size = w.heap.size + 2 := by rw [size_alloc, size_alloc]
  clear hv hu hgr hp hr hq hok hlb hz1
  have hmk := fun w => make_ruls b.rules.length hl2 w
  obtain ⟨k0, k1, k2⟩ := bcell3 HK0.out
  have lk := lt_of_block HK0.out
  go_enter Tryz.func36, Tryz.ntmps36
  go_wp2_with fail
  refine (promRanks_any b.proms xs _ _ _ (HQ0.out.below HB0.out) HU0.out hs HOK.out.2.2 hl0 hl3).mono ?_
  rintro e w1 ⟨mb, rfl, hmb, hrk, hb1⟩
  have HB1 := hidIt (HB0.out.trans (Below.mono hb1 HB0.out.size))
  have HK1 := hidIt (blk_kept2 HK0.out hb1)
  have HZ1 := hidIt (blk_kept2 HZ0.out hb1)
  have HM1 := hidIt hrk
  have hmb' : w.heap.size + 2 ≤ mb := by omega
  have hml := hrk.lt
  have hsz1 : w.heap.size + 2 ≤ w1.heap.size := by have := hb1.size; omega
  clear hb1 hrk k0 k1 k2 lk HB0 HK0 HZ0 HU0 hmb hs0
  obtain ⟨k0, k1, k2⟩ := bcell3 HK1.out
  have lk := lt_of_block HK1.out
  go_wp2_with fail
  clear k0 k1 k2 lk hmk
  have hgr2 := bgrow w1 (.cells (madeCells #[.string ⟨#[]⟩, .bool false, .int .i64 0, .slice none 0 0, .bool false, .string ⟨#[]⟩] (b.rules.length * 6)) 72)
  have HPV : Hid (Pv w b xs #[.slice a1 b.prems.length c1, .slice a2 b.rules.length c2, .slice a3 b.proms.length c3] w1.heap.size mb 0 (w1.heap.size + 1) (w1.alloc (.cells (madeCells #[.string ⟨#[]⟩, .bool false, .int .i64 0, .slice none 0 0, .bool false, .string ⟨#[]⟩] (b.rules.length * 6)) 72)) (List.replicate b.rules.length (zeroRu, Value.slice none 0 0))) :=
    ⟨owns_le (ruls_made w1 b.rules.length hl2) (by omega), List.length_replicate, hsz1, fun i h h' hi => absurd hi (by omega), HM1.out.at (hgr2.block mb hml), hmb', HB1.out.trans (Below.mono hgr2 HB1.out.size), blk_kept2 HK1.out hgr2, blk_kept2 HZ1.out hgr2, Nat.lt_succ_self _, by omega, fun i h hi => absurd hi (by omega), fun i h hi => absurd hi (by omega), by rw [size_alloc]; exact Nat.le_refl _⟩
  obtain ⟨g, hg⟩ : ∃ g, g = w1.heap.size := ⟨_, rfl⟩
  rw [← hg] at HPV ⊢
  generalize (w1.alloc (.cells (madeCells #[.string ⟨#[]⟩, .bool false, .int .i64 0, .slice none 0 0, .bool false, .string ⟨#[]⟩] (b.rules.length * 6)) 72)) = w2 at *
  clear hgr2 HB1 HK1 HZ1 HM1 hg hml hsz1 hmb'
  obtain ⟨k0, k1, k2⟩ := bcell3 HPV.out.box
  have lk := lt_of_block HPV.out.box
  go_wp2_with fail
  clear k0 k1 k2 lk
  go_loopw [22] (fun i wr => ∃ (m N : Nat) (L : List (Ru × Value)), m ≤ b.rules.length ∧ i = .int .i64 m ∧ Hid (Pv w b xs #[.slice a1 b.prems.length c1, .slice a2 b.rules.length c2, .slice a3 b.proms.length c3] g mb m N wr L)) (fun i _ => b.rules.length - (intOf i).toNat)
  case atStart => exact ⟨0, _, _, Nat.zero_le _, rfl, HPV.out⟩
  case round =>
    clear HPV
    obtain ⟨m, N0, L, hm', rfl, HPr⟩ := hrel
    by_cases hm : m < b.rules.length
    · obtain ⟨aa, ca, ea, -, -, hrow⟩ := RowIn.form HR0.out
      injection ea with ea eb ec
      subst ea ec
      obtain ⟨bb, off, rfl, hbl, bv, x0', x1', x2', x3', x4', x5', hbd⟩ := hrow m hm
      obtain ⟨av, cv, rfl, -, -, -⟩ := hbd.form
      have x0 := (HPr.out.bel.cell (p := ⟨bb, off + m * 6, none⟩) hbl).trans x0'
      have x1 := (HPr.out.bel.cell (p := ⟨bb, off + m * 6 + 1, none⟩) hbl).trans x1'
      have x2 := (HPr.out.bel.cell (p := ⟨bb, off + m * 6 + 2, none⟩) hbl).trans x2'
      have x3 := (HPr.out.bel.cell (p := ⟨bb, off + m * 6 + 3, none⟩) hbl).trans x3'
      have x4 := (HPr.out.bel.cell (p := ⟨bb, off + m * 6 + 4, none⟩) hbl).trans x4'
      have x5 := (HPr.out.bel.cell (p := ⟨bb, off + m * 6 + 5, none⟩) hbl).trans x5'
      have hx := Nat.lt_of_lt_of_le hbl HPr.out.bel.size
      have hmI : (m : Int) < (b.rules.length : Int) := by omega
      have hm0 : (0 : Int) ≤ (m : Int) := by omega
      obtain ⟨hs1, hs2, hs3, hs4⟩ := HOK.out.2.1 _ (List.getElem_mem hm)
      have hlbm := HLB.out _ (List.getElem_mem hm)
      obtain ⟨r, hre⟩ : ∃ r, b.rules[m] = r := ⟨_, rfl⟩
      rw [hre] at x0 x1 x2 x3 x4 x5 hbd hs1 hs2 hs3 hlbm
      have HRE := hidIt hre
      clear hrow x0' x1' x2' x3' x4' x5' hbl hre hs4
      obtain ⟨nm, st, rk, ys, ⟨hg, hn⟩⟩ := r
      simp only at x0 x1 x2 x3 x4 x5 hbd hs1 hs2 hs3 hlbm
      have hgr := bgrow wr (.cells #[.string nm, .bool st, .int .i64 rk, .slice av ys.length cv, .bool hg, .string hn] 72)
      have HP1 := hidIt ((HPr.out.up HPr.out.top (Nat.le_refl _)).keep hgr)
      have HK1 := hidIt (heap_alloc_new wr (.cells #[.string nm, .bool st, .int .i64 rk, .slice av ys.length cv, .bool hg, .string hn] 72))
      obtain ⟨z, hrun, hzr⟩ := HP1.out.map.look nm hs1
      have HZR := hidIt hzr
      obtain ⟨p8, hp8⟩ : ∃ p, p = wr.heap.size := ⟨_, rfl⟩
      obtain ⟨N, hN⟩ : ∃ N, N = wr.heap.size := ⟨_, rfl⟩
      have hNp : N ≤ p8 := by omega
      obtain ⟨z0, z1, z2, z3, z4, z5⟩ := bcell6 HK1.out
      have f2 := free_any HK1.out 2
      have l2 := lt_of_block HK1.out
      have hz0 : ∀ w : World, w = w := fun w => rfl
      by_cases hsome : (lastRank xs nm b.proms).isSome = true
      · rw [hsome] at hrun
        obtain ⟨rk', hrk'⟩ := Option.isSome_iff_exists.1 hsome
        have hz : z = rk' := HZR.out rk' hrk'
        subst hz
        cases st
        · have HPR : Hid (promR b.proms xs ⟨nm, false, rk, ys, ⟨hg, hn⟩⟩ = ⟨nm, false, z, ys, ⟨hg, hn⟩⟩) := by show _ = _; unfold promR; rw [if_neg (fun h => by cases h)]; simp only [hrk']
          clear hsome hrk' HZR hzr hgr
          go_upto_region 9 with (fail)
          clear z0 z1 z2 z3 z4 z5 f2 l2 hrun
          rw [← hp8]
          have HP2 := hidIt ((HPr.out.up HPr.out.top (Nat.le_refl _)).keep (bgrow wr (.cells #[.string nm, .bool false, .int .i64 z, .slice av ys.length cv, .bool hg, .string hn] 72)))
          have HK2 := hidIt (heap_alloc_new wr (.cells #[.string nm, .bool false, .int .i64 z, .slice av ys.length cv, .bool hg, .string hn] 72))
          rw [← hN] at HP2
          rw [← hp8] at HK2
          generalize (wr.alloc (.cells #[.string nm, .bool false, .int .i64 z, .slice av ys.length cv, .bool hg, .string hn] 72)) = w2' at *
          clear HK1 HP1 hN hp8 x0 x1 x2 x3 x4 x5 hx
          obtain ⟨z0, z1, z2, z3, z4, z5⟩ := bcell6 HK2.out
          have l2 := lt_of_block HK2.out
          have HBD2 := hidIt (hbd.below (HP2.out.bel))
          go_wp2_with fail
          refine (cloneLt_any ys _ _ HBD2.out (by omega)).mono ?_
          rintro e w3 ⟨vb, rfl, hown, hb3⟩
          have HP3 := hidIt ((HP2.out.keep (Below.mono hb3 HP2.out.top)))
          have hK3 := blk_kept2 HK2.out hb3
          have HOWN := hidIt hown
          have hsz3 := hb3.size
          obtain ⟨ab, cb, rfl, -, -, -⟩ := hown.form5
          obtain ⟨z0, z1, z2, z3, z4, z5⟩ := bcell6 hK3
          have f3 := free_any hK3 3
          have l3 := lt_of_block hK3
          have hnew : ∀ g', (Value.slice ab ys.length cb).ownBlock = some g' → g' ≠ p8 := fun g' e => by have := (owns_blk HOWN.out g' e).1; have := lt_of_block HK2.out; omega
          have HK4 := hidIt (set_cells (i := 3) (u := .slice ab ys.length cb) hK3)
          have HP4 : Hid (Pv w b xs _ g mb m N (w3.setCell ⟨p8, 3, none⟩ (.slice ab ys.length cb)) L) := HP3.out.keep (below_set5 (Below.refl _ _) (by show N ≤ p8; omega))
          have HOV4 : Hid (OwnL (w3.setCell ⟨p8, 3, none⟩ (.slice ab ys.length cb)) w.heap.size (.slice ab ys.length cb) ys) := owns_le (owns_kept HOWN.out fun g' e => Below.heap_setCell w3 ⟨p8, 3, none⟩ _ g' (hnew g' e)) (by have := HP2.out.bel.size; omega)
          have HNG : Hid (∀ g', (Value.slice ab ys.length cb).ownBlock = some g' → g' ≠ g) := fun g' e => by have h1 := (owns_blk HOWN.out g' e).1; have h2 := HP2.out.gN; have h3 := HP2.out.top; omega
          clear hown hb3 hK3 HBD2 hnew HP2 HK2 HP3 HOWN hsz3
          go_upto_region 10 with (fail)
          clear z0 z1 z2 z3 z4 z5 f3 l3
          generalize (w3.setCell ⟨p8, 3, none⟩ (.slice ab ys.length cb)) = w4 at *
          have HK4' : Hid (w4.heap[p8]? = some (.cells #[.string nm, .bool false, .int .i64 z, .slice ab ys.length cb, .bool hg, .string hn] 72 (0, 0))) := HK4.out
          obtain ⟨z0, z1, z2, z3, z4, z5⟩ := bcell6 HK4'.out
          have l3 := lt_of_block HK4'.out
          obtain ⟨cur, htag4⟩ := owns_tag HP4.out.row (g := g) rfl
          have r0 := free_any htag4 (m * 6)
          have r1 := free_any htag4 (m * 6 + 1)
          have r2 := free_any htag4 (m * 6 + 2)
          have r3 := free_any htag4 (m * 6 + 3)
          have r4 := free_any htag4 (m * 6 + 4)
          have r5 := free_any htag4 (m * 6 + 5)
          have lg4 := lt_of_block htag4
          have hmL : m < L.length := by rw [HP4.out.len]; exact hm
          have hrc := fun j (hj : j < 6) (u : Value) (hu : (encRv L[m])[j]? = some u) => owns_cell HP4.out.row rfl (m * 6 + j) u (by rw [flat_get encRv 6 (fun _ => rfl) L m j hmL hj]; exact hu)
          have y0 := hrc 0 (by decide) _ rfl
          have y1 := hrc 1 (by decide) _ rfl
          have y2 := hrc 2 (by decide) _ rfl
          have y3 := hrc 3 (by decide) _ rfl
          have y4 := hrc 4 (by decide) _ rfl
          have y5 := hrc 5 (by decide) _ rfl
          rw [Nat.add_zero] at y0
          have HP5 := hidIt (HP4.out.put hm (nm := nm) (st := false) (rk := z) (ys := ys) (hg := hg) (hn := hn) (vb := .slice ab ys.length cb) (by rw [HRE.out]; exact HPR.out) HOV4.out HNG.out)
          clear hrc htag4 HP4 HOV4 HNG HK4 HK4' HPR HRE
          go_wp2_with fail
          go_roundw
          case rel => exact ⟨m + 1, _, _, by omega, by go_num, HP5.out⟩
          case measure => simp [intOf]; omega
        · have HPR : Hid (promR b.proms xs ⟨nm, true, rk, ys, ⟨hg, hn⟩⟩ = ⟨nm, true, rk, ys, ⟨hg, hn⟩⟩) := by show _ = _; unfold promR; rw [if_pos rfl]
          clear hsome hrk' HZR hzr hgr
          go_upto_region 9 with (fail)
          clear z0 z1 z2 z3 z4 z5 f2 l2 hrun
          rw [← hp8] at HK1 ⊢
          rw [← hN] at HP1
          generalize (wr.alloc (.cells #[.string nm, .bool true, .int .i64 rk, .slice av ys.length cv, .bool hg, .string hn] 72)) = w2' at *
          have HP2 := HP1
          have HK2 := HK1
          clear HP1 HK1 hN hp8 x0 x1 x2 x3 x4 x5 hx
          obtain ⟨z0, z1, z2, z3, z4, z5⟩ := bcell6 HK2.out
          have l2 := lt_of_block HK2.out
          have HBD2 := hidIt (hbd.below (HP2.out.bel))
          go_wp2_with fail
          refine (cloneLt_any ys _ _ HBD2.out (by omega)).mono ?_
          rintro e w3 ⟨vb, rfl, hown, hb3⟩
          have HP3 := hidIt ((HP2.out.keep (Below.mono hb3 HP2.out.top)))
          have hK3 := blk_kept2 HK2.out hb3
          have HOWN := hidIt hown
          have hsz3 := hb3.size
          obtain ⟨ab, cb, rfl, -, -, -⟩ := hown.form5
          obtain ⟨z0, z1, z2, z3, z4, z5⟩ := bcell6 hK3
          have f3 := free_any hK3 3
          have l3 := lt_of_block hK3
          have hnew : ∀ g', (Value.slice ab ys.length cb).ownBlock = some g' → g' ≠ p8 := fun g' e => by have := (owns_blk HOWN.out g' e).1; have := lt_of_block HK2.out; omega
          have HK4 := hidIt (set_cells (i := 3) (u := .slice ab ys.length cb) hK3)
          have HP4 : Hid (Pv w b xs _ g mb m N (w3.setCell ⟨p8, 3, none⟩ (.slice ab ys.length cb)) L) := HP3.out.keep (below_set5 (Below.refl _ _) (by show N ≤ p8; omega))
          have HOV4 : Hid (OwnL (w3.setCell ⟨p8, 3, none⟩ (.slice ab ys.length cb)) w.heap.size (.slice ab ys.length cb) ys) := owns_le (owns_kept HOWN.out fun g' e => Below.heap_setCell w3 ⟨p8, 3, none⟩ _ g' (hnew g' e)) (by have := HP2.out.bel.size; omega)
          have HNG : Hid (∀ g', (Value.slice ab ys.length cb).ownBlock = some g' → g' ≠ g) := fun g' e => by have h1 := (owns_blk HOWN.out g' e).1; have h2 := HP2.out.gN; have h3 := HP2.out.top; omega
          clear hown hb3 hK3 HBD2 hnew HP2 HK2 HP3 HOWN hsz3
          go_upto_region 10 with (fail)
          clear z0 z1 z2 z3 z4 z5 f3 l3
          generalize (w3.setCell ⟨p8, 3, none⟩ (.slice ab ys.length cb)) = w4 at *
          have HK4' : Hid (w4.heap[p8]? = some (.cells #[.string nm, .bool true, .int .i64 rk, .slice ab ys.length cb, .bool hg, .string hn] 72 (0, 0))) := HK4.out
          obtain ⟨z0, z1, z2, z3, z4, z5⟩ := bcell6 HK4'.out
          have l3 := lt_of_block HK4'.out
          obtain ⟨cur, htag4⟩ := owns_tag HP4.out.row (g := g) rfl
          have r0 := free_any htag4 (m * 6)
          have r1 := free_any htag4 (m * 6 + 1)
          have r2 := free_any htag4 (m * 6 + 2)
          have r3 := free_any htag4 (m * 6 + 3)
          have r4 := free_any htag4 (m * 6 + 4)
          have r5 := free_any htag4 (m * 6 + 5)
          have lg4 := lt_of_block htag4
          have hmL : m < L.length := by rw [HP4.out.len]; exact hm
          have hrc := fun j (hj : j < 6) (u : Value) (hu : (encRv L[m])[j]? = some u) => owns_cell HP4.out.row rfl (m * 6 + j) u (by rw [flat_get encRv 6 (fun _ => rfl) L m j hmL hj]; exact hu)
          have y0 := hrc 0 (by decide) _ rfl
          have y1 := hrc 1 (by decide) _ rfl
          have y2 := hrc 2 (by decide) _ rfl
          have y3 := hrc 3 (by decide) _ rfl
          have y4 := hrc 4 (by decide) _ rfl
          have y5 := hrc 5 (by decide) _ rfl
          rw [Nat.add_zero] at y0
          have HP5 := hidIt (HP4.out.put hm (nm := nm) (st := true) (rk := rk) (ys := ys) (hg := hg) (hn := hn) (vb := .slice ab ys.length cb) (by rw [HRE.out]; exact HPR.out) HOV4.out HNG.out)
          clear hrc htag4 HP4 HOV4 HNG HK4 HK4' HPR HRE
          go_wp2_with fail
          go_roundw
          case rel => exact ⟨m + 1, _, _, by omega, by go_num, HP5.out⟩
          case measure => simp [intOf]; omega
      · have hsome' : (lastRank xs nm b.proms).isSome = false := by simpa using hsome
        rw [hsome'] at hrun
        have hnone : lastRank xs nm b.proms = none := by simpa using hsome'
        have HPR : Hid (promR b.proms xs ⟨nm, st, rk, ys, ⟨hg, hn⟩⟩ = ⟨nm, st, rk, ys, ⟨hg, hn⟩⟩) := by
          show _ = _
          unfold promR
          cases st
          · rw [if_neg (fun h => by cases h)]; simp only [hnone]
          · rw [if_pos rfl]
        clear hsome hsome' hnone HZR hzr hgr
        go_upto_region 9 with (fail)
        clear z0 z1 z2 z3 z4 z5 f2 l2 hrun
        rw [← hp8] at HK1 ⊢
        rw [← hN] at HP1
        generalize (wr.alloc (.cells #[.string nm, .bool st, .int .i64 rk, .slice av ys.length cv, .bool hg, .string hn] 72)) = w2' at *
        have HP2 := HP1
        have HK2 := HK1
        clear HP1 HK1 hN hp8 x0 x1 x2 x3 x4 x5 hx
        obtain ⟨z0, z1, z2, z3, z4, z5⟩ := bcell6 HK2.out
        have l2 := lt_of_block HK2.out
        have HBD2 := hidIt (hbd.below (HP2.out.bel))
        go_wp2_with fail
        refine (cloneLt_any ys _ _ HBD2.out (by omega)).mono ?_
        rintro e w3 ⟨vb, rfl, hown, hb3⟩
        have HP3 := hidIt ((HP2.out.keep (Below.mono hb3 HP2.out.top)))
        have hK3 := blk_kept2 HK2.out hb3
        have HOWN := hidIt hown
        have hsz3 := hb3.size
        obtain ⟨ab, cb, rfl, -, -, -⟩ := hown.form5
        obtain ⟨z0, z1, z2, z3, z4, z5⟩ := bcell6 hK3
        have f3 := free_any hK3 3
        have l3 := lt_of_block hK3
        have hnew : ∀ g', (Value.slice ab ys.length cb).ownBlock = some g' → g' ≠ p8 := fun g' e => by have := (owns_blk HOWN.out g' e).1; have := lt_of_block HK2.out; omega
        have HK4 := hidIt (set_cells (i := 3) (u := .slice ab ys.length cb) hK3)
        have HP4 : Hid (Pv w b xs _ g mb m N (w3.setCell ⟨p8, 3, none⟩ (.slice ab ys.length cb)) L) := HP3.out.keep (below_set5 (Below.refl _ _) (by show N ≤ p8; omega))
        have HOV4 : Hid (OwnL (w3.setCell ⟨p8, 3, none⟩ (.slice ab ys.length cb)) w.heap.size (.slice ab ys.length cb) ys) := owns_le (owns_kept HOWN.out fun g' e => Below.heap_setCell w3 ⟨p8, 3, none⟩ _ g' (hnew g' e)) (by have := HP2.out.bel.size; omega)
        have HNG : Hid (∀ g', (Value.slice ab ys.length cb).ownBlock = some g' → g' ≠ g) := fun g' e => by have h1 := (owns_blk HOWN.out g' e).1; have h2 := HP2.out.gN; have h3 := HP2.out.top; omega
        clear hown hb3 hK3 HBD2 hnew HP2 HK2 HP3 HOWN hsz3
        go_upto_region 10 with (fail)
        clear z0 z1 z2 z3 z4 z5 f3 l3
        generalize (w3.setCell ⟨p8, 3, none⟩ (.slice ab ys.length cb)) = w4 at *
        have HK4' : Hid (w4.heap[p8]? = some (.cells #[.string nm, .bool st, .int .i64 rk, .slice ab ys.length cb, .bool hg, .string hn] 72 (0, 0))) := HK4.out
        obtain ⟨z0, z1, z2, z3, z4, z5⟩ := bcell6 HK4'.out
        have l3 := lt_of_block HK4'.out
        obtain ⟨cur, htag4⟩ := owns_tag HP4.out.row (g := g) rfl
        have r0 := free_any htag4 (m * 6)
        have r1 := free_any htag4 (m * 6 + 1)
        have r2 := free_any htag4 (m * 6 + 2)
        have r3 := free_any htag4 (m * 6 + 3)
        have r4 := free_any htag4 (m * 6 + 4)
        have r5 := free_any htag4 (m * 6 + 5)
        have lg4 := lt_of_block htag4
        have hmL : m < L.length := by rw [HP4.out.len]; exact hm
        have hrc := fun j (hj : j < 6) (u : Value) (hu : (encRv L[m])[j]? = some u) => owns_cell HP4.out.row rfl (m * 6 + j) u (by rw [flat_get encRv 6 (fun _ => rfl) L m j hmL hj]; exact hu)
        have y0 := hrc 0 (by decide) _ rfl
        have y1 := hrc 1 (by decide) _ rfl
        have y2 := hrc 2 (by decide) _ rfl
        have y3 := hrc 3 (by decide) _ rfl
        have y4 := hrc 4 (by decide) _ rfl
        have y5 := hrc 5 (by decide) _ rfl
        rw [Nat.add_zero] at y0
        have HP5 := hidIt (HP4.out.put hm (nm := nm) (st := st) (rk := rk) (ys := ys) (hg := hg) (hn := hn) (vb := .slice ab ys.length cb) (by rw [HRE.out]; exact HPR.out) HOV4.out HNG.out)
        clear hrc htag4 HP4 HOV4 HNG HK4 HK4' HPR HRE
        go_wp2_with fail
        go_roundw
        case rel => exact ⟨m + 1, _, _, by omega, by go_num, HP5.out⟩
        case measure => simp [intOf]; omega
    · obtain rfl : m = b.rules.length := by omega
      have hmI : ¬ (b.rules.length : Int) < (b.rules.length : Int) := by omega
      clear hm
      go_upto_region 12 with (fail)
      have HPM := hidIt (HP0.out.below HPr.out.bel)
      have HPQ := hidIt (HQ0.out.below HPr.out.bel)
      obtain ⟨k0, k1, k2⟩ := bcell3 HPr.out.box
      have lk := lt_of_block HPr.out.box
      have KA : ∀ wx, Ext wr wx → wx.cell? ⟨w.heap.size, 0, none⟩ = some (.slice a1 b.prems.length c1) := fun wx hC => (Below.cell (p := ⟨w.heap.size, 0, none⟩) hC lk).trans k0
      have KC : ∀ wx, Ext wr wx → wx.cell? ⟨w.heap.size, 2, none⟩ = some (.slice a3 b.proms.length c3) := fun wx hC => (Below.cell (p := ⟨w.heap.size, 2, none⟩) hC lk).trans k2
      have hwr : w.heap.size ≤ wr.heap.size := HPr.out.bel.size
      haveI := Ext.nonempty wr
      refine Own.wp_region_tail 8 (Ext wr) Grows (Own.relTab [(53, Own.rA (Own.isRow5 w.heap.size 78 5 b.prems.length (b.prems.flatMap encPm))), (57, Own.rA (Own.isRow5 w.heap.size 80 4 b.proms.length (b.proms.flatMap encPr)))]) (by kernel_rfl) (by kernel_rfl) (by kernel_rfl) (by kernel_rfl) (by kernel_rfl) (by kernel_rfl) (Own.stableO_cons (Own.isRow5_up _ _ _ _ _) (Own.stableO_cons (Own.isRow5_up _ _ _ _ _) (Own.stableO_nil _))) (Ext.start wr) ?_
      simp only [Own.idleTail]
      repeat (
        refine' Own.walkR_plain (by kernel_rfl) rfl rfl (fun wx hC hL => ?_) ?_
        rotate_left
        · (have hlw := Nat.lt_of_lt_of_le lk (Below.size hC)
           simp only [KA wx hC, KC wx hC, hlw, go_sem]; first | done | (go_simp; exact ⟨rfl, rfl⟩))
        simp only [Act.put, List.setIfInBounds_toArray, List.set_cons_zero, List.set_cons_succ])
      refine Own.walkR_rel (by kernel_rfl) rfl rfl (of_decide_eq_true (by kernel_rfl)) (fun wx hC hL => ?_) (fun v53 hv53 => ?_)
      · go_simp
        exact Own.callA hC ((clonePm_any b.prems _ wx (HPM.out.below hC) hl1).mono fun e w' ⟨v', he, ho, hb⟩ => ⟨v', he, owns_le ho (Nat.le_trans hwr (Below.size hC)), hb⟩)
      obtain ⟨_, _, hv53⟩ := hv53
      obtain ⟨p1, q1, rfl, -, -⟩ := shape_own hv53
      clear hv53
      simp only [Act.put, List.setIfInBounds_toArray, List.set_cons_zero, List.set_cons_succ]
      repeat (
        refine' Own.walkR_plain (by kernel_rfl) rfl rfl (fun wx hC hL => ?_) ?_
        rotate_left
        · (have hlw := Nat.lt_of_lt_of_le lk (Below.size hC)
           simp only [KA wx hC, KC wx hC, hlw, go_sem]; first | done | (go_simp; exact ⟨rfl, rfl⟩))
        simp only [Act.put, List.setIfInBounds_toArray, List.set_cons_zero, List.set_cons_succ])
      refine Own.walkR_rel (by kernel_rfl) rfl rfl (of_decide_eq_true (by kernel_rfl)) (fun wx hC hL => ?_) (fun v57 hv57 => ?_)
      · go_simp
        exact Own.callA hC ((clonePr_any b.proms _ wx (HPQ.out.below hC) hl3).mono fun e w' ⟨v', he, ho, hb⟩ => ⟨v', he, owns_le ho (Nat.le_trans hwr (Below.size hC)), hb⟩)
      obtain ⟨_, _, hv57⟩ := hv57
      obtain ⟨p2, q2, rfl, -, -⟩ := shape_own hv57
      clear hv57
      simp only [Act.put, List.setIfInBounds_toArray, List.set_cons_zero, List.set_cons_succ]
      repeat (
        refine' Own.walkR_plain (by kernel_rfl) rfl rfl (fun wx hC hL => ?_) ?_
        rotate_left
        · (go_simp; exact ⟨rfl, rfl⟩)
        simp only [Act.put, List.setIfInBounds_toArray, List.set_cons_zero, List.set_cons_succ])
      refine Own.walkR_idle (fun wx hC => Below.refl _ _) ?_
      refine fun w9 hC9 hK => ?_
      have h53 : Own.isRow5 w.heap.size 78 5 b.prems.length (b.prems.flatMap encPm) (.slice p1 b.prems.length q1) w9 := hK.get 53 (by simp [Own.more]) rfl rfl
      have h57 : Own.isRow5 w.heap.size 80 4 b.proms.length (b.proms.flatMap encPr) (.slice p2 b.proms.length q2) w9 := hK.get 57 (by simp [Own.more]) rfl rfl
      have hC9' : Below wr.heap.size wr w9 := hC9
      have HP9 := hidIt (HPr.out.keep (Below.mono hC9' HPr.out.top))
      clear hK hC9 hC9' KA KC k0 k1 k2 lk HPM HPQ HPr
      simp only [List.drop_succ_cons, List.drop_zero]
      have HPM : Hid (OwnPm w9 w.heap.size (.slice p1 b.prems.length q1) b.prems) := h53
      have HPQ : Hid (OwnPr w9 w.heap.size (.slice p2 b.proms.length q2) b.proms) := h57
      obtain ⟨z0, z1, z2⟩ := bcell3 HP9.out.res
      have f0 := free_any HP9.out.res 0
      have f1 := free_any HP9.out.res 1
      have f2 := free_any HP9.out.res 2
      have lz := lt_of_block HP9.out.res
      have hst : ∀ (u0 u1 u2 : Value) k, k ≠ w.heap.size + 1 → (((w9.setCell ⟨w.heap.size + 1, 0, none⟩ u0).setCell ⟨w.heap.size + 1, 1, none⟩ u1).setCell ⟨w.heap.size + 1, 2, none⟩ u2).heap[k]? = w9.heap[k]? := fun u0 u1 u2 k hk => by
        rw [Below.heap_setCell _ ⟨w.heap.size + 1, 2, none⟩ _ k hk, Below.heap_setCell _ ⟨w.heap.size + 1, 1, none⟩ _ k hk, Below.heap_setCell _ ⟨w.heap.size + 1, 0, none⟩ _ k hk]
      have HEND : ∀ u0 u1 u2 : Value, Hid (BaseAt (((w9.setCell ⟨w.heap.size + 1, 0, none⟩ u0).setCell ⟨w.heap.size + 1, 1, none⟩ u1).setCell ⟨w.heap.size + 1, 2, none⟩ u2) (.agg #[.slice p1 b.prems.length q1, .slice (some ⟨g, 0, none⟩) b.rules.length b.rules.length, .slice p2 b.proms.length q2]) (promB b xs) ∧ Below w.heap.size w (((w9.setCell ⟨w.heap.size + 1, 0, none⟩ u0).setCell ⟨w.heap.size + 1, 1, none⟩ u1).setCell ⟨w.heap.size + 1, 2, none⟩ u2)) := fun u0 u1 u2 => by
        have hres := HP9.out.res
        refine ⟨⟨_, _, _, rfl, OwnPm.at_ (owns_kept HPM.out fun k e => hst u0 u1 u2 k (by obtain ⟨c, hc⟩ := owns_tag HPM.out e; exact tag_ne hc hres (by decide))), ?_, OwnPr.at_ (owns_kept HPQ.out fun k e => hst u0 u1 u2 k (by obtain ⟨c, hc⟩ := owns_tag HPQ.out e; exact tag_ne hc hres (by decide)))⟩, below_set5 (below_set5 (below_set5 HP9.out.bel (by omega)) (by omega)) (by omega)⟩
        exact (HP9.out.rulesAt (hst u0 u1 u2)).at_
      go_wp2_with fail
      refine bodyPost_ret (v := .agg #[.slice p1 b.prems.length q1, .slice (some ⟨g, 0, none⟩) b.rules.length b.rules.length, .slice p2 b.proms.length q2]) (by simp [results, Tryz.results36, go_sem, z0, z1, z2, lz]) rfl ?_
      obtain ⟨h1, h2⟩ := (HEND (.slice p1 b.prems.length q1) (.slice (some ⟨g, 0, none⟩) b.rules.length b.rules.length) (.slice p2 b.proms.length q2)).out
      exact ⟨_, rfl, h1, h2⟩
end Go.Proofs.YtiffcdhiejmbdaaGreatDoor
