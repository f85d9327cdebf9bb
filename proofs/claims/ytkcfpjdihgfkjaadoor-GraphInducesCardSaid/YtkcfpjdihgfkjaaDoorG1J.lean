/- The law GraphInduces: for every list of numbers it answers true. -/
import Derived.Test.YtkcfpjdihgfkjaaDoorG1I
import Derived.Test.YtkcfpjdihgfkjaaDoorG1G
import Derived.Test.YtkcfpjdihgfkjaaDoorNew
namespace Go.Proofs.YtkcfpjdihgfkjaaDoor
set_option linter.unusedVariables false
set_option linter.unusedSimpArgs false
open Go Go.RowKit Go.Sort

theorem OwnPairs.read {w w' : World} {B b : Nat} {v : Value} {xs : List (Int × Int)} (h : OwnPairs w B v xs) (hg : w.grownBy w' (some b)) (hb : b < B) : OwnPairs w' B v xs := by
  rcases h with h | ⟨g, cap, h1, h2, h3, h4, h5, h6⟩
  · exact .inl h
  · have hk : w'.heap[g]? = w.heap[g]? := hg.block g h5 (fun e => by injection e with e; omega)
    exact .inr ⟨g, cap, h1, h2, h3, h4, Nat.lt_of_lt_of_le h5 hg.size, holds_block h6 hk⟩
theorem OwnI.read {w w' : World} {B b : Nat} {v : Value} {zs : List Int} (h : OwnI w B v zs) (hg : w.grownBy w' (some b)) (hb : b < B) : OwnI w' B v zs :=
  owns_kept h fun g e => hg.block g (owns_blk h g e).2 (fun e2 => by injection e2 with e2; have := (owns_blk h g e).1; omega)
theorem blk_read {w w' : World} {b g : Nat} {o : Obj} (h : w.heap[g]? = some o) (hg : w.grownBy w' (some b)) (hne : g ≠ b) : w'.heap[g]? = some o :=
  (hg.block g (lt_of_block h) (fun e => hne (by first | exact Option.some.inj e | exact (Option.some.inj e).symm))).trans h
theorem below_read {w a a' : World} {b : Nat} (h : Below b w a) (hg : a.grownBy a' (some b)) (hna : b ≤ a.heap.size) : Below b w a' := below_app5 h hg (fun g e => by injection e with e; omega) hna
theorem ints_range (n : Nat) : ints (List.range (n + 1)) = ints (List.range n) ++ [(n : Int)] := by
  unfold ints
  rw [List.range_succ, List.map_append]
  first | done | rfl
theorem IL.ics {w : World} {a : Option Addr} {n c : Nat} {zs : List Int} (h : IL w (.slice a n c) zs) : IC w a zs := by
  obtain ⟨a', c', e, hic⟩ := h.ic
  injection e with e1
  subst e1
  exact hic
theorem ints_get {l : List Nat} {j : Nat} (h : j < l.length) : (ints l)[j]'(by rw [ints_len]; exact h) = ((l[j] : Nat) : Int) := by unfold ints; simp
theorem pickN_len (l f : List Nat) : (pickN l f).length = f.length := by unfold pickN; rw [List.length_map]
theorem pick_step {l f : List Nat} {j : Nat} (h : j < f.length) : pickN l (f.take (j + 1)) = pickN l (f.take j) ++ [l.getD f[j] 0] := by
  unfold pickN
  rw [List.take_succ_eq_append_getElem h, List.map_append]
  rfl

set_option maxRecDepth 100000 in
set_option maxHeartbeats 8000000 in
theorem induces_walk (lv : Value) (zs : List Int) (w : World) (hz : IntsAt w w.heap.size lv zs) (hT : Tab w) :
    Calls Tryd.prog 7 #[lv] w fun e w' => e = .returned (.bool true) ∧ Below w.heap.size w w' := by
  have HT := hidIt hT
  have HZ := hidIt hz
  clear hz hT
  go_enter Tryd.func7, Tryd.ntmps7
  go_wp2_with fail
  refine (new_any lv zs w.heap.size w HZ.out (Nat.le_refl _)).mono ?_
  rintro e w1 ⟨zs', rfl, hs1, o1, rfl⟩
  have HS1 := hidIt hs1
  have HB1 := hidIt (bgrow w o1)
  have hsz1 : w.heap.size < (w.alloc o1).heap.size := hs1.lt
  clear hs1
  generalize w.alloc o1 = w1 at *
  go_wp2_with fail
  refine (kGraph_any 9 (by decide) _ _ _ _ w1 HS1.out).mono ?_
  rintro e w2 ⟨N, ps, ga, gc, k2, rfl, hN, hok, hpl, hop, hs2, hg2⟩
  have HOK := hidIt hok
  have HPL := hidIt hpl
  have hgr := bgrow w2 (.cells #[.int .i64 (N : Int), .slice ga ps.length gc] 24)
  have HO3 := hidIt (hop.below hgr)
  have HS3 := hidIt (hs2.alloc (.cells #[.int .i64 (N : Int), .slice ga ps.length gc] 24))
  have HX3 := hidIt (heap_alloc_new w2 (.cells #[.int .i64 (N : Int), .slice ga ps.length gc] 24))
  have HB2 := hidIt (below_read HB1.out hg2 (Nat.le_of_lt hsz1))
  have HB3 := hidIt (HB2.out.trans (Below.mono hgr HB2.out.size))
  have hG : w.heap.size < w2.heap.size := Nat.lt_of_lt_of_le hsz1 hg2.size
  clear hok hpl hop hs2 hg2 hgr HB2 HS1 HB1
  go_upto_region 3 with (fail)
  generalize hw3 : (w2.alloc (.cells #[.int .i64 (N : Int), .slice ga ps.length gc] 24)) = w3 at *
  have hsz3 : w.heap.size < w3.heap.size := by rw [← hw3, World.size_alloc]; omega
  clear hw3
  generalize w2.heap.size = G at *
  obtain ⟨x0, x1⟩ := And.intro (cell_two0 HX3.out) (cell_two1 HX3.out)
  have lx := lt_of_block HX3.out
  go_wp2_with fail
  refine (kPart_any N (by omega) _ _ _ _ w3 HS3.out).mono ?_
  rintro e w4 ⟨sm, sa, sc, k4, rfl, hasc, hsml, hos, hs4, hg4⟩
  have HASC := hidIt hasc
  have HOS4 := hidIt hos
  have HS4 := hidIt hs4
  have HO4 := hidIt (HO3.out.read hg4 hsz1)
  have HX4 := hidIt (blk_read HX3.out hg4 (by omega))
  have HB4 := hidIt (below_read HB3.out hg4 (Nat.le_of_lt hsz3))
  have hsz4 : w.heap.size < w4.heap.size := Nat.lt_of_lt_of_le hsz3 hg4.size
  clear hasc hos hs4 hg4 HO3 HS3 HX3 HB3 x0 x1 lx
  obtain ⟨x0, x1⟩ := And.intro (cell_two0 HX4.out) (cell_two1 HX4.out)
  have lx := lt_of_block HX4.out
  have hN64 : N ≤ 64 := by omega
  go_wp2_with fail
  have HCI : Hid (∀ (fl : List Nat) (wx : World) (a1 a2 : Option Addr) (c1 c2 : Nat), Asc N fl → fl.length ≤ 1000 → PairsAt wx (.slice a1 ps.length c1) ps → IL wx (.slice a2 fl.length c2) (ints fl) → Calls Tryd.prog 31 #[.agg #[.int .i64 (N : Int), .slice a1 ps.length c1], .slice a2 fl.length c2] wx fun e w' => ∃ (a : Option Addr) (c : Nat), e = .returned (.agg #[.int .i64 (fl.length : Int), .slice a (indL (N : Int) ps (ints fl)).length c]) ∧ OwnPairs w' wx.heap.size (.slice a (indL (N : Int) ps (ints fl)).length c) (indL (N : Int) ps (ints fl)) ∧ Below wx.heap.size wx w') := fun fl wx a1 a2 c1 c2 hfl hfll hp hi => by
    have h := gInduced_any (N : Int) _ _ ps (ints fl) wx hp HPL.out hi (by rw [ints_len]; exact hfll)
    rw [vN_of HOK.out, vL_of HOK.out, ind_N (by omega) hfl] at h
    refine h.mono ?_
    rintro e w' ⟨v', rfl, ho, hb⟩
    obtain ⟨a, c, rfl, -⟩ := ho.lits.form
    exact ⟨a, c, rfl, ho, hb⟩
  refine (HCI.out sm w4 ga sa gc sc HASC.out (by omega) HO4.out.lits HOS4.out.il).mono ?_
  rintro e w5 ⟨ha, hc, rfl, hoh, hb5⟩
  have HHOK := hidIt (ind_ok (by omega) HOK.out HASC.out (by omega))
  have HMEM : Hid (∀ a b (h1 : a < sm.length) (h2 : b < sm.length), ((a : Int), (b : Int)) ∈ indL (N : Int) ps (ints sm) ↔ ((sm[a] : Int), (sm[b] : Int)) ∈ ps) := fun a b h1 h2 => mem_ind (by omega) HOK.out HASC.out h1 h2
  have HII : Hid (∀ f, Asc sm.length f → indL (sm.length : Int) (indL (N : Int) ps (ints sm)) (ints f) = indL (N : Int) ps (ints (pickN sm f))) := fun f hf => ind_ind (by omega) HOK.out HASC.out (by omega) hf
  have HHL : Hid ((indL (N : Int) ps (ints sm)).length ≤ 1000) := Nat.le_trans (partL_len _ _) HPL.out
  generalize indL (N : Int) ps (ints sm) = hs at *
  obtain ⟨M, hM⟩ : ∃ M, M = sm.length := ⟨_, rfl⟩
  have HM := hidIt hM
  have hgr := bgrow w5 (.cells #[.int .i64 (M : Int), .slice ha hs.length hc] 24)
  have HOH6 := hidIt (hoh.below hgr)
  have HO6 := hidIt ((HO4.out.below hb5).below hgr)
  have HX6 := hidIt (blk_kept2 (blk_kept2 HX4.out hb5) hgr)
  have HY6 := hidIt (heap_alloc_new w5 (.cells #[.int .i64 (M : Int), .slice ha hs.length hc] 24))
  have HOS6 := hidIt ((HOS4.out.go hb5).go hgr)
  have HS6 := hidIt ((HS4.out.grow (only_of_below hb5 none)).alloc (.cells #[.int .i64 (M : Int), .slice ha hs.length hc] 24))
  have HB6 := hidIt ((HB4.out.trans (Below.mono hb5 HB4.out.size)).trans (Below.mono hgr (Nat.le_trans HB4.out.size hb5.size)))
  have hsz5 : w.heap.size < w5.heap.size := Nat.lt_of_lt_of_le hsz4 hb5.size
  have hM9 : M ≤ 9 := by omega
  rw [← hM] at HOS6 ⊢
  clear hoh hb5 hgr HO4 HX4 HOS4 HS4 HB4 x0 x1 lx hM hsml
  go_upto_region 5 with (fail)
  generalize hw6 : (w5.alloc (.cells #[.int .i64 (M : Int), .slice ha hs.length hc] 24)) = w6 at *
  have hsz6 : w.heap.size < w6.heap.size := by rw [← hw6, World.size_alloc]; omega
  clear hw6
  generalize w5.heap.size = H at *
  obtain ⟨y0, y1⟩ := And.intro (cell_two0 HY6.out) (cell_two1 HY6.out)
  have ly := lt_of_block HY6.out
  have hbm : ((M : Int) != (M : Int)) = false := bne_self_eq_false _
  have HVH : Hid (valE (M : Int) hs = 0) := by show _ = _; rw [HM.out]; exact valE_of HHOK.out
  go_wp2_with fail
  refine (gValidate_any (M : Int) _ hs _ HOH6.out.lits (by have := HHL.out; omega)).mono ?_
  rw [HVH.out]
  rintro e w7 ⟨rfl, hb7⟩
  have HOH7 := hidIt (HOH6.out.below hb7)
  have HO7 := hidIt (HO6.out.below hb7)
  have HX7 := hidIt (blk_kept2 HX6.out hb7)
  have HY7 := hidIt (blk_kept2 HY6.out hb7)
  have HOS7 := hidIt (HOS6.out.go hb7)
  have HS7 := hidIt (HS6.out.grow (only_of_below hb7 none))
  have HB7 := hidIt (HB6.out.trans (Below.mono hb7 HB6.out.size))
  have hsz7 : w.heap.size < w7.heap.size := Nat.lt_of_lt_of_le hsz6 hb7.size
  clear hb7 HOH6 HO6 HX6 HY6 HOS6 HS6 HB6 y0 y1 ly hbm
  obtain ⟨y0, y1⟩ := And.intro (cell_two0 HY7.out) (cell_two1 HY7.out)
  have ly := lt_of_block HY7.out
  go_wp2_with fail
  refine (kPart_any M (by omega) _ _ _ _ w7 HS7.out).mono ?_
  rintro e w8 ⟨fw, fa, fc, k8, rfl, hfas, hfwl, hof, -, hg8⟩
  have HFAS := hidIt hfas
  have HIF8 := hidIt hof.il
  have HPH8 := hidIt (HOH7.out.read hg8 hsz4).lits
  have HPG8 := hidIt (HO7.out.read hg8 hsz1).lits
  have HX8 := hidIt (blk_read HX7.out hg8 (by omega))
  have HY8 := hidIt (blk_read HY7.out hg8 (by omega))
  have HIS8 := hidIt (HOS7.out.read hg8 hsz3).il
  have HB8 := hidIt (below_read HB7.out hg8 (Nat.le_of_lt hsz7))
  clear hfas hof hg8 HOH7 HO7 HX7 HY7 HOS7 HS7 HB7 y0 y1 ly
  obtain ⟨F, hF⟩ : ∃ F, F = fw.length := ⟨_, rfl⟩
  have HFL := hidIt hF
  rw [← hF] at hfwl HIF8 ⊢
  clear hF
  go_wp2_with fail
  have HICF := hidIt HIF8.out.ics
  have HICS := hidIt HIS8.out.ics
  go_loopw [8, 11, 44] (fun v8 _ vj wr => ∃ (j : Nat) (da : Option Addr) (dc : Nat), v8 = .slice da j dc ∧ vj = .int .i64 (j : Int) ∧ j ≤ F ∧ Hid (OwnI wr w8.heap.size (.slice da j dc) (ints (pickN sm (fw.take j)))) ∧ Hid (Below w8.heap.size w8 wr)) (fun _ _ vj _ => F - (intOf vj).toNat)
  case atStart => exact ⟨0, none, 0, (by first | rfl | trivial), (by first | rfl | trivial), Nat.zero_le _, OwnI.nil _ _, Below.refl _ _⟩
  case round =>
    obtain ⟨j, da, dc, rfl, rfl, hj, HO, HBr⟩ := hrel
    have hj0 : (0 : Int) ≤ (j : Int) := by omega
    by_cases hlt : j < F
    · have hjI : (j : Int) < (F : Int) := by omega
      have hjl : j < fw.length := by rw [← HFL.out]; exact hlt
      obtain ⟨b1, o1, rfl, l1, hc1⟩ := (HICF.out.go HBr.out).at_ (k := j) (by rw [ints_len]; exact hjl)
      have c1 := hc1 j (by rw [ints_len]; exact hjl)
      rw [ints_get hjl] at c1
      have hiM : fw[j] < sm.length := by rw [← HM.out]; exact HFAS.out.lt _ (List.getElem_mem _)
      have HST : Hid (pickN sm (fw.take (j + 1)) = pickN sm (fw.take j) ++ [sm.getD fw[j] 0]) := pick_step hjl
      have HTL : Hid ((ints (pickN sm (fw.take j))).length = j) := by show _ = _; rw [ints_len, pickN_len, List.length_take]; omega
      generalize fw[j] = i at *
      clear hc1
      obtain ⟨b2, o2, rfl, l2, hc2⟩ := (HICS.out.go HBr.out).at_ (k := i) (by rw [ints_len]; exact hiM)
      have c2 := hc2 i (by rw [ints_len]; exact hiM)
      rw [ints_get hiM] at c2
      have HGD : Hid (sm.getD i 0 = sm[i]) := by show _ = _; rw [List.getD_eq_getElem?_getD, List.getElem?_eq_getElem hiM]; rfl
      rw [HGD.out] at HST
      generalize sm[i] = x at *
      clear hc2
      have hi0 : (0 : Int) ≤ (i : Int) := by omega
      have hiI : (i : Int) < (M : Int) := by have := HM.out; omega
      have hgr := bgrow wr (.cells #[.int .i64 (x : Int)] 3)
      have HO3 := hidIt (HO.out.go hgr)
      have HB3 := hidIt (HBr.out.trans (Below.mono hgr HBr.out.size))
      have hsz3 : w8.heap.size ≤ (wr.alloc (.cells #[.int .i64 (x : Int)] 3)).heap.size := HB3.out.size
      have HO7 : Hid (World.ownsRow (wr.alloc (.cells #[.int .i64 (x : Int)] 3)) w8.heap.size 3 1 (.slice da j dc) j ((ints (pickN sm (fw.take j))).map (Value.int .i64))) := by
        have h := HO3.out
        unfold OwnI at h
        rw [HTL.out] at h
        exact h
      clear hgr HO3 HO HBr
      go_wp2_with (at_builtin; refine Hid.out ?_)
      refine hidIt ?_
      refine wpList_append_kb rfl _ _ elemI rfl w8.heap.size (.slice da j dc) j _ rfl HO7.out _ 1 rfl #[.int .i64 (x : Int)] 3 (heap_alloc_new _ _) rfl (one_of (by rfl)) (by omega) hsz3 ?_
      intro g9 c9 w9 hown9 hg9 hbl9
      have HO9 : Hid (OwnI w9 w8.heap.size (.slice (some ⟨g9, 0, none⟩) (j + 1) c9) (ints (pickN sm (fw.take (j + 1))))) := by
        show World.ownsRow _ _ _ _ _ _ _
        have h2 : (ints (pickN sm (fw.take (j + 1)))).length = j + 1 := by rw [ints_len, pickN_len, List.length_take]; omega
        rw [h2, HST.out]
        unfold ints at hown9 ⊢
        rw [List.map_append, List.map_append]
        exact hown9
      have HB9 := hidIt (below_app5 HB3.out hg9 (fun g e => (owns_blk HO7.out g e).1) hsz3)
      clear hown9 hg9 hbl9 HO7 HB3 hsz3 c1 c2 l1 l2
      go_wp2_with fail
      go_roundw
      case rel => exact ⟨j + 1, some ⟨g9, 0, none⟩, c9, (by first | rfl | trivial), by go_num, by omega, HO9.out, HB9.out⟩
      case measure => simp [intOf]; omega
    · obtain rfl : j = F := by omega
      have hjI : ¬ (j : Int) < (j : Int) := by omega
      have HE : Hid (fw.take j = fw) := List.take_of_length_le (by rw [← HFL.out]; exact Nat.le_refl _)
      rw [HE.out] at HO
      have HD9 := hidIt HO.out.il
      have HPK := hidIt (pick_asc HASC.out (l := sm) (f := fw) (by rw [← HM.out]; exact HFAS.out))
      have HPKL : Hid (j = (pickN sm fw).length) := by show _ = _; rw [pickN_len]; exact HFL.out
      have HBA := HBr
      clear HO
      go_wp2_with fail
      obtain ⟨wo, hwo⟩ : ∃ wo, wo = wr := ⟨_, rfl⟩
      subst hwo
      go_loopw [9, 12] (fun v9 vi wr => ∃ (i : Nat) (ea : Option Addr) (ec : Nat), v9 = .slice ea i ec ∧ vi = .int .i64 (i : Int) ∧ i ≤ N ∧ Hid (OwnI wr wo.heap.size (.slice ea i ec) (ints (List.range i))) ∧ Hid (Below wo.heap.size wo wr)) (fun _ vi _ => N - (intOf vi).toNat)
      case atStart => exact ⟨0, none, 0, (by first | rfl | trivial), (by first | rfl | trivial), Nat.zero_le _, OwnI.nil _ _, Below.refl _ _⟩
      case round =>
        obtain ⟨i, ea, ec, rfl, rfl, hi, HO, HBr⟩ := hrel
        have hi0 : (0 : Int) ≤ (i : Int) := by omega
        have HXr := hidIt (blk_kept2 (blk_kept2 HX8.out HBA.out) HBr.out)
        obtain ⟨x0, x1⟩ := And.intro (cell_two0 HXr.out) (cell_two1 HXr.out)
        have lx := lt_of_block HXr.out
        by_cases hlt2 : i < N
        · have hiI : (i : Int) < (N : Int) := by omega
          have HTL : Hid ((ints (List.range i)).length = i) := by show _ = _; rw [ints_len, List.length_range]
          have hgr := bgrow wr (.cells #[.int .i64 (i : Int)] 3)
          have HO3 := hidIt (HO.out.go hgr)
          have HB3 := hidIt (HBr.out.trans (Below.mono hgr HBr.out.size))
          have hsz3 : wo.heap.size ≤ (wr.alloc (.cells #[.int .i64 (i : Int)] 3)).heap.size := HB3.out.size
          have HO7 : Hid (World.ownsRow (wr.alloc (.cells #[.int .i64 (i : Int)] 3)) wo.heap.size 3 1 (.slice ea i ec) i ((ints (List.range i)).map (Value.int .i64))) := by
            have h := HO3.out
            unfold OwnI at h
            rw [HTL.out] at h
            exact h
          clear hgr HO3 HO HBr
          go_wp2_with (at_builtin; refine Hid.out ?_)
          refine hidIt ?_
          refine wpList_append_kb rfl _ _ elemI rfl wo.heap.size (.slice ea i ec) i _ rfl HO7.out _ 1 rfl #[.int .i64 (i : Int)] 3 (heap_alloc_new _ _) rfl (one_of (by rfl)) (by omega) hsz3 ?_
          intro g9 c9 w9 hown9 hg9 hbl9
          have HO9 : Hid (OwnI w9 wo.heap.size (.slice (some ⟨g9, 0, none⟩) (i + 1) c9) (ints (List.range (i + 1)))) := by
            show World.ownsRow _ _ _ _ _ _ _
            rw [ints_len, List.length_range, ints_range, List.map_append]
            exact hown9
          have HB9 := hidIt (below_app5 HB3.out hg9 (fun g e => (owns_blk HO7.out g e).1) hsz3)
          clear hown9 hg9 hbl9 HO7 HB3 hsz3 x0 x1 lx
          go_wp2_with fail
          go_roundw
          case rel => exact ⟨i + 1, some ⟨g9, 0, none⟩, c9, (by first | rfl | trivial), by go_num, by omega, HO9.out, HB9.out⟩
          case measure => simp [intOf]; omega
        · obtain rfl : i = N := by omega
          have hiI : ¬ (i : Int) < (i : Int) := by omega
          have HE9 := hidIt HO.out.il
          have HBB := hidIt (HBA.out.trans (Below.mono HBr.out HBA.out.size))
          have HDX := hidIt (HD9.out.below HBr.out)
          have HYx := hidIt (blk_kept2 (blk_kept2 HY8.out HBA.out) HBr.out)
          have HPHx := hidIt (HPH8.out.below HBB.out)
          have HPGx := hidIt (HPG8.out.below HBB.out)
          have HISx := hidIt (HIS8.out.below HBB.out)
          have HIFx := hidIt (HIF8.out.below HBB.out)
          have HICx := hidIt HISx.out.ics
          have HBx := hidIt (HB8.out.trans (Below.mono HBB.out HB8.out.size))
          clear HO HBr HBA HD9 HBB HX8 HY8 HPH8 HPG8 HIS8 HICS HICF HIF8
          go_wp2_with fail
          have HXv := hidIt HXr.out
          clear HXr x0 x1 lx
          obtain ⟨wv, hwv⟩ : ∃ wv, wv = wr := ⟨_, rfl⟩
          subst hwv
          go_loopw [13, 14, 15, 16, 68, 75] (fun _ _ _ _ va _ wr => ∃ a : Nat, va = .int .i64 (a : Int) ∧ a ≤ M ∧ Hid (Below wv.heap.size wv wr)) (fun _ _ _ _ va _ _ => M - (intOf va).toNat)
          case atStart => exact ⟨0, (by first | rfl | trivial), Nat.zero_le _, Below.refl _ _⟩
          case round =>
            obtain ⟨a, rfl, hal, HBr⟩ := hrel
            have ha0 : (0 : Int) ≤ (a : Int) := by omega
            by_cases haM : a < M
            · have haI : (a : Int) < (M : Int) := by omega
              have hasm : a < sm.length := by rw [← HM.out]; exact haM
              obtain ⟨b1, o1, rfl, l1, hc1⟩ := (HICx.out.go HBr.out).at_ (k := a) (by rw [ints_len]; exact hasm)
              have c1 := hc1 a (by rw [ints_len]; exact hasm)
              rw [ints_get hasm] at c1
              clear hc1
              go_wp2_with fail
              go_loopw [15, 16, 75] (fun _ _ vb wr => ∃ b : Nat, vb = .int .i64 (b : Int) ∧ b ≤ M ∧ Hid (Below wv.heap.size wv wr)) (fun _ _ vb _ => M - (intOf vb).toNat)
              case atStart => exact ⟨0, (by first | rfl | trivial), Nat.zero_le _, HBr.out⟩
              case round =>
                clear c1 l1 HBr
                obtain ⟨b, rfl, hbl, HBr⟩ := hrel
                have hb0 : (0 : Int) ≤ (b : Int) := by omega
                by_cases hbM : b < M
                · have hbI : (b : Int) < (M : Int) := by omega
                  have hbsm : b < sm.length := by rw [← HM.out]; exact hbM
                  obtain ⟨b2, o2, hb2e, l2, hc2⟩ := (HICx.out.go HBr.out).at_ (k := b) (by rw [ints_len]; exact hbsm)
                  have c2 := hc2 b (by rw [ints_len]; exact hbsm)
                  rw [ints_get hbsm] at c2
                  injection hb2e with hb2e
                  injection hb2e with hb2e ho2e
                  subst hb2e ho2e
                  have HX9 := hidIt (blk_kept2 HXv.out HBr.out)
                  have HY9 := hidIt (blk_kept2 HYx.out HBr.out)
                  obtain ⟨x0, x1⟩ := And.intro (cell_two0 HX9.out) (cell_two1 HX9.out)
                  have lx := lt_of_block HX9.out
                  obtain ⟨y0, y1⟩ := And.intro (cell_two0 HY9.out) (cell_two1 HY9.out)
                  have ly := lt_of_block HY9.out
                  have HMM := HMEM.out a b hasm hbsm
                  have HC1 : Hid (∀ wx : World, Ext wr wx → Calls Tryd.prog 14 #[.agg #[.int .i64 (M : Int), .slice ha hs.length hc], .int .i64 (a : Int), .int .i64 (b : Int)] wx fun e w' => e = .returned (.bool (decide (((a : Int), (b : Int)) ∈ hs))) ∧ Below wx.heap.size wx w') := fun wx hC => by
                    have h := gHas_any (M : Int) _ hs (a : Int) (b : Int) wx ((HPHx.out.below HBr.out).below hC) (by have := HHL.out; omega)
                    rw [vL_of (by rw [HM.out]; exact HHOK.out)] at h
                    exact h
                  have HC2 : Hid (∀ wx : World, Ext wr wx → Calls Tryd.prog 14 #[.agg #[.int .i64 (i : Int), .slice ga ps.length gc], .int .i64 ((sm[a] : Nat) : Int), .int .i64 ((sm[b] : Nat) : Int)] wx fun e w' => e = .returned (.bool (decide (((a : Int), (b : Int)) ∈ hs))) ∧ Below wx.heap.size wx w') := fun wx hC => by
                    have h := gHas_any (i : Int) _ ps ((sm[a] : Nat) : Int) ((sm[b] : Nat) : Int) wx ((HPGx.out.below HBr.out).below hC) (by have := HPL.out; omega)
                    rw [vL_of HOK.out] at h
                    rw [show decide (((a : Int), (b : Int)) ∈ hs) = decide ((((sm[a] : Nat) : Int), ((sm[b] : Nat) : Int)) ∈ ps) from decide_eq_decide.2 HMM]
                    exact h
                  generalize decide (((a : Int), (b : Int)) ∈ hs) = X at *
                  generalize sm[a] = va at *
                  generalize sm[b] = vb at *
                  have HCC : Hid (∀ (n : Int) (u : Value) (p q : Int), (n = (M : Int) ∧ u = .slice ha hs.length hc ∧ p = (a : Int) ∧ q = (b : Int) ∨ n = (i : Int) ∧ u = .slice ga ps.length gc ∧ p = (va : Int) ∧ q = (vb : Int)) → ∀ wx : World, Ext wr wx → Calls Tryd.prog 14 #[.agg #[.int .i64 n, u], .int .i64 p, .int .i64 q] wx fun e w' => e = .returned (.bool X) ∧ Below wx.heap.size wx w') := fun n u p q h wx hC => by
                    rcases h with ⟨rfl, rfl, rfl, rfl⟩ | ⟨rfl, rfl, rfl, rfl⟩
                    · exact HC1.out wx hC
                    · exact HC2.out wx hC
                  clear HC1 HC2
                  have X0 := fun y => Ext.cell x0 y
                  have X1 := fun y => Ext.cell x1 y
                  have Y0 := fun y => Ext.cell y0 y
                  have Y1 := fun y => Ext.cell y1 y
                  have LX := fun y : In (Ext wr) => Nat.lt_of_lt_of_le lx (Below.size y.h)
                  have LY := fun y : In (Ext wr) => Nat.lt_of_lt_of_le ly (Below.size y.h)
                  have hxx : (X != X) = false := by cases X <;> rfl
                  clear HMM hc2
                  go_wp2_with fail
                  haveI := Ext.nonempty wr
                  refine wp_region_in (Ext wr) (by kernel_rfl) (by kernel_rfl) (Ext.start wr) ?_
                  repeat (go_big_quiet_step ((go_at_call 14; refine Ext.call (HCC.out _ _ _ _ (by first | exact .inl ⟨rfl, rfl, rfl, rfl⟩ | exact .inr ⟨rfl, rfl, rfl, rfl⟩) _ (In.h _)))))
                  refine wpQuiet_nil ?_
                  rintro w9 ⟨⟨_, h9⟩, rfl⟩
                  have HB9 := hidIt (HBr.out.trans (Below.mono h9 HBr.out.size))
                  clear h9 X0 X1 Y0 Y1 LX LY x0 x1 lx y0 y1 ly c2 l2
                  go_wp2_with fail
                  go_roundw
                  case rel => exact ⟨b + 1, by go_num, by omega, HB9.out⟩
                  case measure => simp [intOf]; omega
                · obtain rfl : b = M := by omega
                  have hbI : ¬ (b : Int) < (b : Int) := by omega
                  go_wp2_with fail
                  go_roundw
                  case rel => exact ⟨a + 1, by go_num, by omega, HBr.out⟩
                  case measure => simp [intOf]; omega
            · have haI : ¬ (a : Int) < (M : Int) := by omega
              have HX9 := hidIt (blk_kept2 HXv.out HBr.out)
              have HY9 := hidIt (blk_kept2 HYx.out HBr.out)
              have HPH9 := hidIt (HPHx.out.below HBr.out)
              have HPG9 := hidIt (HPGx.out.below HBr.out)
              have HD9 := hidIt (HDX.out.below HBr.out)
              have HE10 := hidIt (HE9.out.below HBr.out)
              have HIF9 := hidIt (HIFx.out.below HBr.out)
              have HB10 := hidIt (HBx.out.trans (Below.mono HBr.out HBx.out.size))
              go_wp2_with fail
              have HRM : Hid (∀ f, Asc M f → f.length ≤ 1000 → ∀ (wx : World) (a2 : Option Addr) (c2 : Nat), Ext wr wx → IL wx (.slice a2 f.length c2) (ints f) → Calls Tryd.prog 31 #[.agg #[.int .i64 (M : Int), .slice ha hs.length hc], .slice a2 f.length c2] wx fun e w' => ∃ u, e = .returned u ∧ Ext wr w' ∧ Grows wx w' ∧ Own.relR (Own.rA (Own.isGr (f.length : Int) (indL (M : Int) hs (ints f)))) wx u w') := fun f hf hfl wx a2 c2 hC hi => Own.callA hC (by
                have hMok : GOk (M : Int) hs := by rw [HM.out]; exact HHOK.out
                have h := gInduced_any (M : Int) _ _ hs (ints f) wx (HPH9.out.below hC) HHL.out hi (by rw [ints_len]; exact hfl)
                rw [vN_of hMok, vL_of hMok, ind_N (by omega) hf] at h
                refine h.mono ?_
                rintro e w' ⟨v', rfl, ho, hb⟩
                obtain ⟨a, c, rfl, -⟩ := ho.lits.form
                exact ⟨_, rfl, ⟨a, c, rfl, ho.lits⟩, hb⟩)
              have HRG : Hid (∀ f, Asc i f → f.length ≤ 1000 → ∀ (wx : World) (a2 : Option Addr) (c2 : Nat), Ext wr wx → IL wx (.slice a2 f.length c2) (ints f) → Calls Tryd.prog 31 #[.agg #[.int .i64 (i : Int), .slice ga ps.length gc], .slice a2 f.length c2] wx fun e w' => ∃ u, e = .returned u ∧ Ext wr w' ∧ Grows wx w' ∧ Own.relR (Own.rA (Own.isGr (f.length : Int) (indL (i : Int) ps (ints f)))) wx u w') := fun f hf hfl wx a2 c2 hC hi => Own.callA hC ((HCI.out f wx ga a2 gc c2 hf hfl (HPG9.out.below hC) hi).mono fun e w' ⟨a, c, he, ho, hb⟩ => ⟨_, he, ⟨a, c, rfl, ho.lits⟩, hb⟩)
              have HSM : Hid (∀ (n : Nat) (qs : List (Int × Int)) (wx : World) (a1 a2 : Option Addr) (c1 c2 : Nat), qs.length ≤ 1000 → Ext wr wx → PairsAt wx (.slice a1 qs.length c1) qs → PairsAt wx (.slice a2 qs.length c2) qs → Calls Tryd.prog 16 #[.agg #[.int .i64 (n : Int), .slice a1 qs.length c1], .agg #[.int .i64 (n : Int), .slice a2 qs.length c2]] wx fun e w' => ∃ u, e = .returned u ∧ Ext wr w' ∧ Grows wx w' ∧ Own.relR (Own.rA (Own.isVal (.bool true))) wx u w') := fun n qs wx a1 a2 c1 c2 hq hC h1 h2 => Own.callA hC ((rgSame_any (n : Int) (n : Int) _ _ qs qs wx h1 h2 (by omega) (by omega)).mono fun e w' ⟨he, hb⟩ => ⟨_, he, by show _ = _; unfold sameB; simp, hb⟩)
              have HAW : Hid (∀ wx : World, Ext wr wx → Calls Tryd.prog 27 #[] wx fun e w' => ∃ u, e = .returned u ∧ Ext wr w' ∧ Grows wx w' ∧ Own.relR (Own.rA (Own.isVal (.bool true))) wx u w') := fun wx hC => Own.callA hC ((awake10 wx (HT.out.go (HB10.out.trans (Below.mono hC HB10.out.size)))).mono fun e w' ⟨he, hb⟩ => ⟨_, he, rfl, hb⟩)
              have HDD : Hid (indL (M : Int) hs (ints fw) = indL (i : Int) ps (ints (pickN sm fw))) := by
                have h := HII.out fw (by rw [← HM.out]; exact HFAS.out)
                rw [← HM.out] at h
                exact h
              have HDL : Hid ((indL (i : Int) ps (ints (pickN sm fw))).length ≤ 1000) := Nat.le_trans (partL_len _ _) HPL.out
              have HIA : Hid (indL (i : Int) ps (ints (List.range i)) = ps) := ind_all (by omega) HOK.out
              have HR93 : Hid (∀ wx, Ext wr wx → Calls Tryd.prog 31 #[.agg #[.int .i64 (M : Int), .slice ha hs.length hc], .slice fa j fc] wx fun e w' => ∃ u, e = .returned u ∧ Ext wr w' ∧ Grows wx w' ∧ Own.relR (Own.rA (Own.isGr (j : Int) (indL (i : Int) ps (ints (pickN sm fw))))) wx u w') := fun wx hC => by
                have h := HRM.out fw HFAS.out (by rw [← HFL.out]; omega) wx fa fc hC (by rw [← HFL.out]; exact HIF9.out.below hC)
                rw [HDD.out, ← HFL.out] at h
                exact h
              have HR96 : Hid (∀ wx, Ext wr wx → Calls Tryd.prog 31 #[.agg #[.int .i64 (i : Int), .slice ga ps.length gc], .slice da j dc] wx fun e w' => ∃ u, e = .returned u ∧ Ext wr w' ∧ Grows wx w' ∧ Own.relR (Own.rA (Own.isGr (j : Int) (indL (i : Int) ps (ints (pickN sm fw))))) wx u w') := fun wx hC => by
                have h := HRG.out (pickN sm fw) HPK.out (by rw [← HPKL.out]; omega) wx da dc hC (by rw [← HPKL.out]; exact HD9.out.below hC)
                rw [← HPKL.out] at h
                exact h
              have HR101 : Hid (∀ wx, Ext wr wx → Calls Tryd.prog 31 #[.agg #[.int .i64 (i : Int), .slice ga ps.length gc], .slice ea i ec] wx fun e w' => ∃ u, e = .returned u ∧ Ext wr w' ∧ Grows wx w' ∧ Own.relR (Own.rA (Own.isGr (i : Int) ps)) wx u w') := fun wx hC => by
                have e : (List.range i).length = i := List.length_range
                have h := HRG.out (List.range i) ⟨range_up i, fun x hx => List.mem_range.1 hx⟩ (by rw [e]; omega) wx ea ec hC (by rw [e]; exact HE10.out.below hC)
                rw [HIA.out, e] at h
                exact h
              have HPG0 : Hid (∀ wx, Ext wr wx → PairsAt wx (.slice ga ps.length gc) ps) := fun wx hC => HPG9.out.below hC
              have HPLL := hidIt HPL.out
              obtain ⟨x0, x1⟩ := And.intro (cell_two0 HX9.out) (cell_two1 HX9.out)
              have lx := lt_of_block HX9.out
              obtain ⟨y0, y1⟩ := And.intro (cell_two0 HY9.out) (cell_two1 HY9.out)
              have ly := lt_of_block HY9.out
              have X0 : ∀ wx, Ext wr wx → wx.cell? ⟨G, 0, none⟩ = some (.int .i64 (i : Int)) := fun wx hC => ext_cell x0 lx hC
              have X1 : ∀ wx, Ext wr wx → wx.cell? ⟨G, 1, none⟩ = some (.slice ga ps.length gc) := fun wx hC => ext_cell x1 lx hC
              have Y0 : ∀ wx, Ext wr wx → wx.cell? ⟨H, 0, none⟩ = some (.int .i64 (M : Int)) := fun wx hC => ext_cell y0 ly hC
              have Y1 : ∀ wx, Ext wr wx → wx.cell? ⟨H, 1, none⟩ = some (.slice ha hs.length hc) := fun wx hC => ext_cell y1 ly hC
              clear HRM HRG HDD HIA HCI HII HMEM
              generalize indL (i : Int) ps (ints (pickN sm fw)) = D at *
              haveI : Nonempty (In (Ext wr)) := Ext.nonempty wr
              refine Own.wp_region_rel (Ext wr) Grows (Own.relTab [(93, Own.rA (Own.isGr (j : Int) D)), (96, Own.rA (Own.isGr (j : Int) D)), (97, Own.rA (Own.isVal (.bool true))), (101, Own.rA (Own.isGr (i : Int) ps)), (103, Own.rA (Own.isVal (.bool true))), (106, Own.rA (Own.isVal (.bool true)))]) (by kernel_rfl) (by kernel_rfl) (by kernel_rfl) (Own.stableO_cons (Own.isGr_up _ _) (Own.stableO_cons (Own.isGr_up _ _) (Own.stableO_cons (Own.isVal_up _) (Own.stableO_cons (Own.isGr_up _ _) (Own.stableO_cons (Own.isVal_up _) (Own.stableO_cons (Own.isVal_up _) (Own.stableO_nil _))))))) (Ext.start wr) ?_
              repeat (
                refine' Own.walkR_plain (by kernel_rfl) rfl rfl (fun wx hC hL => ?_) ?_
                rotate_left
                · (have hlw := Below.size hC
                   have hlw1 := Nat.lt_of_lt_of_le lx hlw
                   have hlw2 := Nat.lt_of_lt_of_le ly hlw
                   simp only [X0 wx hC, X1 wx hC, Y0 wx hC, Y1 wx hC, hlw1, hlw2, go_sem]; first | done | (go_simp; exact ⟨rfl, rfl⟩))
                simp only [Act.put, List.setIfInBounds_toArray, List.set_cons_zero, List.set_cons_succ])
              refine Own.walkR_rel (by kernel_rfl) rfl rfl (of_decide_eq_true (by kernel_rfl)) (fun wx hC hL => ?_) (fun v hv => ?_)
              · go_simp
                exact HR93.out wx hC
              obtain ⟨_, _, a93, c93, rfl, -⟩ := hv
              simp only [Act.put, List.setIfInBounds_toArray, List.set_cons_zero, List.set_cons_succ]
              repeat (
                refine' Own.walkR_plain (by kernel_rfl) rfl rfl (fun wx hC hL => ?_) ?_
                rotate_left
                · (have hlw := Below.size hC
                   have hlw1 := Nat.lt_of_lt_of_le lx hlw
                   have hlw2 := Nat.lt_of_lt_of_le ly hlw
                   simp only [X0 wx hC, X1 wx hC, Y0 wx hC, Y1 wx hC, hlw1, hlw2, go_sem]; first | done | (go_simp; exact ⟨rfl, rfl⟩))
                simp only [Act.put, List.setIfInBounds_toArray, List.set_cons_zero, List.set_cons_succ])
              refine Own.walkR_rel (by kernel_rfl) rfl rfl (of_decide_eq_true (by kernel_rfl)) (fun wx hC hL => ?_) (fun v hv => ?_)
              · go_simp
                exact HR96.out wx hC
              obtain ⟨_, _, a96, c96, rfl, -⟩ := hv
              simp only [Act.put, List.setIfInBounds_toArray, List.set_cons_zero, List.set_cons_succ]
              refine Own.walkR_rel (by kernel_rfl) rfl rfl (of_decide_eq_true (by kernel_rfl)) (fun wx hC hL => ?_) (fun v hv => ?_)
              · have HP1 : Hid (PairsAt wx (.slice a93 D.length c93) D) := Own.isGr_use (hL.get 93 (by simp [Own.more]) (by kernel_rfl) rfl rfl)
                have HP2 : Hid (PairsAt wx (.slice a96 D.length c96) D) := Own.isGr_use (hL.get 96 (by simp [Own.more]) (by kernel_rfl) rfl rfl)
                go_simp
                exact HSM.out j D wx a93 a96 c93 c96 HDL.out hC HP1.out HP2.out
              obtain ⟨_, _, rfl⟩ := hv
              simp only [Act.put, List.setIfInBounds_toArray, List.set_cons_zero, List.set_cons_succ]
              repeat (
                refine' Own.walkR_plain (by kernel_rfl) rfl rfl (fun wx hC hL => ?_) ?_
                rotate_left
                · (have hlw := Below.size hC
                   have hlw1 := Nat.lt_of_lt_of_le lx hlw
                   have hlw2 := Nat.lt_of_lt_of_le ly hlw
                   simp only [X0 wx hC, X1 wx hC, Y0 wx hC, Y1 wx hC, hlw1, hlw2, go_sem]; first | done | (go_simp; exact ⟨rfl, rfl⟩))
                simp only [Act.put, List.setIfInBounds_toArray, List.set_cons_zero, List.set_cons_succ])
              refine Own.walkR_rel (by kernel_rfl) rfl rfl (of_decide_eq_true (by kernel_rfl)) (fun wx hC hL => ?_) (fun v hv => ?_)
              · go_simp
                exact HR101.out wx hC
              obtain ⟨_, _, a101, c101, rfl, -⟩ := hv
              simp only [Act.put, List.setIfInBounds_toArray, List.set_cons_zero, List.set_cons_succ]
              repeat (
                refine' Own.walkR_plain (by kernel_rfl) rfl rfl (fun wx hC hL => ?_) ?_
                rotate_left
                · (have hlw := Below.size hC
                   have hlw1 := Nat.lt_of_lt_of_le lx hlw
                   have hlw2 := Nat.lt_of_lt_of_le ly hlw
                   simp only [X0 wx hC, X1 wx hC, Y0 wx hC, Y1 wx hC, hlw1, hlw2, go_sem]; first | done | (go_simp; exact ⟨rfl, rfl⟩))
                simp only [Act.put, List.setIfInBounds_toArray, List.set_cons_zero, List.set_cons_succ])
              refine Own.walkR_rel (by kernel_rfl) rfl rfl (of_decide_eq_true (by kernel_rfl)) (fun wx hC hL => ?_) (fun v hv => ?_)
              · have HP1 : Hid (PairsAt wx (.slice a101 ps.length c101) ps) := Own.isGr_use (hL.get 101 (by simp [Own.more]) (by kernel_rfl) rfl rfl)
                go_simp
                exact HSM.out i ps wx a101 ga c101 gc HPLL.out hC HP1.out (HPG0.out wx hC)
              obtain ⟨_, _, rfl⟩ := hv
              simp only [Act.put, List.setIfInBounds_toArray, List.set_cons_zero, List.set_cons_succ]
              repeat (
                refine' Own.walkR_plain (by kernel_rfl) rfl rfl (fun wx hC hL => ?_) ?_
                rotate_left
                · (have hlw := Below.size hC
                   have hlw1 := Nat.lt_of_lt_of_le lx hlw
                   have hlw2 := Nat.lt_of_lt_of_le ly hlw
                   simp only [X0 wx hC, X1 wx hC, Y0 wx hC, Y1 wx hC, hlw1, hlw2, go_sem]; first | done | (go_simp; exact ⟨rfl, rfl⟩))
                simp only [Act.put, List.setIfInBounds_toArray, List.set_cons_zero, List.set_cons_succ])
              refine Own.walkR_rel (by kernel_rfl) rfl rfl (of_decide_eq_true (by kernel_rfl)) (fun wx hC hL => ?_) (fun v hv => ?_)
              · go_simp
                exact HAW.out wx hC
              obtain ⟨_, _, rfl⟩ := hv
              simp only [Act.put, List.setIfInBounds_toArray, List.set_cons_zero, List.set_cons_succ]
              repeat (
                refine' Own.walkR_plain (by kernel_rfl) rfl rfl (fun wx hC hL => ?_) ?_
                rotate_left
                · (have hlw := Below.size hC
                   have hlw1 := Nat.lt_of_lt_of_le lx hlw
                   have hlw2 := Nat.lt_of_lt_of_le ly hlw
                   simp only [X0 wx hC, X1 wx hC, Y0 wx hC, Y1 wx hC, hlw1, hlw2, go_sem]; first | done | (go_simp; exact ⟨rfl, rfl⟩))
                simp only [Act.put, List.setIfInBounds_toArray, List.set_cons_zero, List.set_cons_succ])
              refine fun w11 hC11 hK => ?_
              have HBF := hidIt (HB10.out.trans (Below.mono hC11 HB10.out.size))
              clear hK X0 X1 Y0 Y1 x0 x1 lx y0 y1 ly
              go_wp2_with fail
              go_ret
              exact ⟨rfl, HBF.out⟩
end Go.Proofs.YtkcfpjdihgfkjaaDoor
