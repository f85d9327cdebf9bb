/- ordered: the components in their order. -/
import Derived.Test.YtcelijjohcfhkaaDoorG1B
namespace Go.Proofs.YtcelijjohcfhkaaDoor
set_option linter.unusedVariables false
set_option linter.unusedSimpArgs false
open Go Go.RowKit Go.Sort

theorem orderF_step {rat : Nat → BitVec 64} {f : Nat} {r l : List (BitVec 64)} {listed : BitVec 64} (hne : r ≠ []) (h : orderF rat (f + 1) r listed = some l) :
    ∃ k, ∃ hk : k < r.length, r.findIdx? (freeB rat listed) = some k ∧ ∃ l', orderF rat f (r.eraseIdx k) (listed ||| r[k]) = some l' ∧ l = r[k] :: l' := by
  rw [orderF, if_neg hne] at h
  cases hf : r.findIdx? (freeB rat listed) with
  | none => rw [hf] at h; cases h
  | some k =>
    rw [hf] at h
    obtain ⟨hk, -, -⟩ := List.findIdx?_eq_some_iff_getElem.1 hf
    have e : r.getD k 0#64 = r[k] := by rw [List.getD_eq_getElem?_getD, List.getElem?_eq_getElem hk]; rfl
    simp only [e] at h
    cases ho : orderF rat f (r.eraseIdx k) (listed ||| r[k]) with
    | none => rw [ho] at h; cases h
    | some l' =>
      rw [ho] at h
      exact ⟨k, hk, rfl, l', ho, (Option.some.inj h).symm⟩
def lenOf : Value → Nat
  | .slice _ n _ => n
  | _ => 0

set_option maxRecDepth 100000 in
set_option maxHeartbeats 8000000 in
theorem ordered_any (N rb : Nat) (rat : Nat → BitVec 64) (ca : Option Addr) (cc : Nat) (cs sorted l : List (BitVec 64)) (w : World) (hc : UC w ca cs) (hne : cs ≠ []) (hl : cs.length ≤ 64) (hr : SetsAt w rb N rat) (hT : Tab w) (hsub : ∀ c ∈ cs, ∀ j ∈ members c, j < N)
    (h2 : sorted.Perm cs) (h3 : sorted.Pairwise fun x y => ctzB x < ctzB y) (ho : orderF rat sorted.length sorted 0#64 = some l) :
    Calls Tryd.prog 27 #[.slice ca cs.length cc, .slice (some ⟨rb, 0, none⟩) N N] w fun e w' => ∃ (a : Option Addr) (c : Nat), e = .returned (.slice a l.length c) ∧ UC w' a l ∧ Below w.heap.size w w' := by
  have HC := hidIt hc
  have HR := hidIt hr
  have HT := hidIt hT
  have HS : Hid (∀ c ∈ sorted, ∀ j ∈ members c, j < N) := fun c hm => hsub c (h2.mem_iff.1 hm)
  have HO := hidIt ho
  have H2 := hidIt h2
  have H3 := hidIt h3
  have HNE := hidIt hne
  have HSL : Hid (sorted.length ≤ 64) := by show _ ≤ _; rw [h2.length_eq]; exact hl
  have hrb := lt_of_block hr
  have hg1 := bgrow w (.cells #[.slice (some ⟨rb, 0, none⟩) N N] 49)
  have HX1 := hidIt (heap_alloc_new w (.cells #[.slice (some ⟨rb, 0, none⟩) N N] 49))
  have HB1 := hidIt hg1
  have HC1 := hidIt (hc.go hg1)
  have hsz1 : (w.alloc (.cells #[.slice (some ⟨rb, 0, none⟩) N N] 49)).heap.size = w.heap.size + 1 := by simp
  have hcl := hl
  have hg0 : 0 < w.heap.size := World.block_lt_of_cell? w ⟨0, 0, none⟩ (hT 0 (by decide))
  clear hc hr hT hsub h2 h3 ho hne hg1
  go_enter Tryd.func27, Tryd.ntmps27
  go_upto_region 1 with (fail)
  generalize (w.alloc (.cells #[.slice (some ⟨rb, 0, none⟩) N N] 49)) = w1 at *
  go_wp2_with fail
  refine (cloneU_any ca cc cs w1 HC1.out HNE.out (by omega)).mono ?_
  rintro e w2 ⟨b, cap, rfl, hR2, hb2⟩
  have HR2 := hidIt hR2
  have HB2 := hidIt (HB1.out.trans (Below.mono hb2 HB1.out.size))
  have HX2 := hidIt (blk_kept2 HX1.out hb2)
  clear hR2 hb2
  go_wp2_with fail
  refine (sortU_any w1.heap.size b cap cs sorted w2 HR2.out (HT.out.go HB2.out) (by omega) (by omega) H2.out H3.out).mono ?_
  rintro e w3 ⟨rfl, hR3, hb3⟩
  have hbX : b ≠ w.heap.size := by have := hR3.lo; omega
  have HX3 := hidIt ((hb3.block w.heap.size (by omega)).trans HX2.out)
  have HB3 := hidIt (HB2.out.trans (Below.mono hb3 (by omega)))
  have HR3 := hidIt hR3
  have hbl := hR3.lt
  clear hR3 hb3
  have hg4 := bgrow w3 (.cells #[.int .u64 0] 54)
  have HK4 : Hid ((w3.alloc (.cells #[.int .u64 0] 54)).heap[w3.heap.size]? = some (.cells #[bv 0#64] 54 (0, 0))) := heap_alloc_new w3 (.cells #[.int .u64 0] 54)
  have HX4 := hidIt (blk_kept2 HX3.out hg4)
  have HR4 := hidIt (HR3.out.below hg4)
  have HB4 := hidIt (HB3.out.trans (Below.mono hg4 HB3.out.size))
  clear hg4
  have HCL : Hid (cs.length = sorted.length) := H2.out.length_eq.symm
  rw [HCL.out]
  go_upto_region 4 with (fail)
  generalize (w3.alloc (.cells #[.int .u64 0] 54)) = w4 at *
  have hXK : w.heap.size < w3.heap.size := lt_of_block HX3.out
  clear HX3 HR3 HB3 HX2 HR2 HB2 HX1 HC1 HB1
  generalize hK : w3.heap.size = K at *
  clear hK
  have hB1 : w.heap.size < w1.heap.size := by omega
  clear hsz1
  generalize w1.heap.size = B1 at *
  go_wp2_with fail
  go_loopw [5, 8, 9] (fun v5 v8 _ wr => ∃ (r ls l' : List (BitVec 64)) (listed : BitVec 64) (la : Option Addr) (lc : Nat), v5 = .slice (some ⟨b, 0, none⟩) r.length cap ∧ v8 = .slice la ls.length lc ∧ Hid (r.length ≤ 64 ∧ ls.length + r.length ≤ 64) ∧ Hid (RowU wr B1 b cap r) ∧ Hid (OwnU wr (K + 1) (.slice la ls.length lc) ls) ∧ Hid (wr.heap[K]? = some (.cells #[bv listed] 54 (0, 0))) ∧ Hid (wr.heap[w.heap.size]? = some (.cells #[.slice (some ⟨rb, 0, none⟩) N N] 49 (0, 0))) ∧ Hid (Below w.heap.size w wr) ∧ Hid (orderF rat r.length r listed = some l' ∧ l = ls ++ l') ∧ Hid (∀ c ∈ r, ∀ j ∈ members c, j < N)) (fun v5 _ _ _ => lenOf v5)
  case atStart => exact ⟨sorted, [], l, 0#64, none, 0, (by first | rfl | trivial), (by first | rfl | trivial), ⟨HSL.out, by have := HSL.out; simpa using this⟩, HR4.out, OwnU.nil _ _, HK4.out, HX4.out, HB4.out, ⟨HO.out, rfl⟩, HS.out⟩
  case round =>
    clear HR4 HK4 HX4 HB4
    obtain ⟨r, ls, l', listed, la, lc, rfl, rfl, HLN, HRR, HOW, HK, HX, HB, HOR, HSS⟩ := hrel
    by_cases hr0 : r = []
    · have HE : Hid (l = ls) := by
        obtain ⟨h1, h2⟩ := HOR.out
        subst hr0
        have : l' = [] := (Option.some.inj h1).symm
        show _ = _
        rw [h2, this, List.append_nil]
      have hrl : r.length = 0 := by rw [hr0]; rfl
      rw [hrl]
      obtain ⟨ua, uc, hue, huc⟩ := HOW.out.uc
      have HUC := hidIt huc
      injection hue with hu1 hu2 hu3
      subst hu1 hu3
      clear hr0 hrl hu2
      go_wp2_with fail
      go_ret
      rw [HE.out]
      exact ⟨_, _, rfl, HUC.out, HB.out⟩
    · obtain ⟨f, hf⟩ : ∃ f, r.length = f + 1 := ⟨r.length - 1, by have := List.length_pos_iff.2 hr0; omega⟩
      obtain ⟨k, hk, hfi, l2, ho2, hl2⟩ := orderF_step hr0 (by rw [← hf]; exact HOR.out.1)
      have HIX : Hid (idxU (freeB rat listed) r = (k : Int)) := by show _ = _; unfold idxU; rw [hfi]
      have HEL : Hid ((r.eraseIdx k).length = f) := by show _ = _; rw [List.length_eraseIdx_of_lt hk, hf]; rfl
      have HOR2 : Hid (orderF rat (r.eraseIdx k).length (r.eraseIdx k) (listed ||| r[k]) = some l2 ∧ l = (ls ++ [r[k]]) ++ l2) := by
        refine ⟨by rw [HEL.out]; exact ho2, ?_⟩
        rw [HOR.out.2, hl2, List.append_assoc]
        rfl
      have HSS2 : Hid (∀ c ∈ r.eraseIdx k, ∀ j ∈ members c, j < N) := fun c hm => HSS.out c (List.mem_of_mem_eraseIdx hm)
      have hrpos : (0 : Int) < (r.length : Int) := by omega
      have hrposn : 0 < r.length := by omega
      have hrl64 : r.length ≤ 64 := HLN.out.1
      have HCALL := hidIt (indexU_any (freeB rat listed) w.heap.size K (some ⟨b, 0, none⟩) cap r wr HRR.out.uc (by omega) (fun c hm wx hx =>
        isFree_any c listed N rb w.heap.size K rat wx (blk_kept2 HX.out hx) (blk_kept2 HK.out hx) (HR.out.go (HB.out.trans (Below.mono hx HB.out.size))) (HT.out.go (HB.out.trans (Below.mono hx HB.out.size))) (HSS.out c hm)))
      clear hfi ho2 hl2 hr0 hf
      go_wp2_with fail
      refine HCALL.out.mono ?_
      rw [HIX.out]
      rintro e w5 ⟨rfl, hb5⟩
      have HRR5 := hidIt (HRR.out.below hb5)
      have HOW5 := hidIt (HOW.out.go hb5)
      have HK5 := hidIt (blk_kept2 HK.out hb5)
      have HX5 := hidIt (blk_kept2 HX.out hb5)
      have HB5 := hidIt (HB.out.trans (Below.mono hb5 HB.out.size))
      clear hb5 HRR HOW HK HX HB HCALL
      have hk0 : (0 : Int) ≤ (k : Int) := by omega
      have hkI : (k : Int) < (r.length : Int) := by omega
      have c0 := HRR5.out.cell hk
      have lb := HRR5.out.lt
      generalize hc : r[k] = c at *
      have HCE := hidIt hc
      clear hc
      have hg6 := bgrow w5 (.cells #[bv c] 54)
      have HRR6 := hidIt (HRR5.out.below hg6)
      have HK6 := hidIt (blk_kept2 HK5.out hg6)
      have HX6 := hidIt (blk_kept2 HX5.out hg6)
      have HB6 := hidIt (HB5.out.trans (Below.mono hg6 HB5.out.size))
      have HO6 : Hid (World.ownsRow (w5.alloc (.cells #[bv c] 54)) (K + 1) 54 1 (.slice la ls.length lc) ls.length (ls.map bv)) := HOW5.out.go hg6
      have hsz6 : K + 1 ≤ (w5.alloc (.cells #[bv c] 54)).heap.size := lt_of_block HK6.out
      have hll : ls.length ≤ 64 := by have := HLN.out.2; omega
      clear hg6
      go_wp2_with (at_builtin; refine Hid.out ?_)
      refine hidIt ?_
      refine wpList_append_kb rfl _ _ elemU rfl (K + 1) (.slice la ls.length lc) ls.length _ rfl HO6.out _ 1 rfl #[bv c] 54 (heap_alloc_new _ _) rfl (one_of (by rfl)) (by omega) hsz6 ?_
      intro g8 c8 w8 hown8 hg8 hbl8
      have hOB : ∀ g, (Value.slice la ls.length lc).ownBlock = some g → K + 1 ≤ g := fun g e => (owns_blk HO6.out g e).1
      have HRR8 := hidIt (HRR6.out.go (hg8.block b HRR6.out.lt (fun e => by have := hOB _ e.symm; omega)) hg8.size)
      have HK8 := hidIt ((hg8.block K (lt_of_block HK6.out) (fun e => by have := hOB _ e.symm; omega)).trans HK6.out)
      have HX8 := hidIt ((hg8.block w.heap.size (lt_of_block HX6.out) (fun e => by have := hOB _ e.symm; omega)).trans HX6.out)
      have HB8 := hidIt (below_app5 HB6.out hg8 (fun g e => by have := hOB g e; omega) HB6.out.size)
      have HLL : Hid ((ls ++ [c]).length = ls.length + 1) := by show _ = _; rw [List.length_append]; rfl
      have HO8 : Hid (OwnU w8 (K + 1) (.slice (some ⟨g8, 0, none⟩) (ls.length + 1) c8) (ls ++ [c])) := by
        show World.ownsRow _ _ _ _ _ _ _
        rw [HLL.out, List.map_append]
        exact hown8
      clear hown8 hg8 hbl8 hOB HO6 HRR6 HK6 HX6 HB6 HRR5 HOW5 HK5 HX5 HB5 c0 lb hsz6
      have c0 := HRR8.out.cell hk
      rw [HCE.out] at c0
      have lb := HRR8.out.lt
      have k0 := one_cell HK8.out
      have lk := lt_of_block HK8.out
      have fk := free_any HK8.out 0
      have HK9 : Hid ((w8.setCell ⟨K, 0, none⟩ (bv (listed ||| c))).drew.heap[K]? = some (.cells #[bv (listed ||| c)] 54 (0, 0))) := set_cells (i := 0) (u := bv (listed ||| c)) HK8.out
      have HX9 : Hid ((w8.setCell ⟨K, 0, none⟩ (bv (listed ||| c))).drew.heap[w.heap.size]? = some (.cells #[.slice (some ⟨rb, 0, none⟩) N N] 49 (0, 0))) := (Below.heap_setCell w8 ⟨K, 0, none⟩ _ w.heap.size (by show w.heap.size ≠ K; omega)).trans HX8.out
      have HRR9 : Hid (RowU (w8.setCell ⟨K, 0, none⟩ (bv (listed ||| c))).drew B1 b cap r) := HRR8.out.go (Below.heap_setCell w8 ⟨K, 0, none⟩ _ b (by show b ≠ K; omega)) (by show w8.heap.size ≤ (w8.setCell _ _).heap.size; rw [size_setCell9]; exact Nat.le_refl _)
      have HO9 : Hid (OwnU (w8.setCell ⟨K, 0, none⟩ (bv (listed ||| c))).drew (K + 1) (.slice (some ⟨g8, 0, none⟩) (ls.length + 1) c8) (ls ++ [c])) := owns_kept HO8.out fun g e => Below.heap_setCell w8 ⟨K, 0, none⟩ _ g (by have := (owns_blk HO8.out g e).1; show g ≠ K; omega)
      have HB9 : Hid (Below w.heap.size w (w8.setCell ⟨K, 0, none⟩ (bv (listed ||| c))).drew) := by
        have h := below_set5 (b := K) (i := 0) (u := bv (listed ||| c)) HB8.out (by omega)
        exact ⟨h.os, h.tape, h.output, h.size, h.block⟩
      have HOB := hidIt (bits_or_bv listed c)
      go_wp2_with fail
      go_big_region
      go_wp2_with fail
      simp only [HOB.out]
      generalize (w8.setCell ⟨K, 0, none⟩ (bv (listed ||| c))).drew = w9 at *
      refine (deleteU_any B1 b cap k r w9 HRR9.out hk (by omega)).mono ?_
      rintro e w10 ⟨rfl, hR10, hb10, hk10⟩
      have HRR10 := hidIt hR10
      have HK10 := hidIt ((hk10 K (by omega)).trans HK9.out)
      have HX10 := hidIt ((hk10 w.heap.size (fun e => hbX e.symm)).trans HX9.out)
      have HO10 : Hid (OwnU w10 (K + 1) (.slice (some ⟨g8, 0, none⟩) (ls.length + 1) c8) (ls ++ [c])) := owns_kept HO9.out fun g e => hk10 g (by have := (owns_blk HO9.out g e).1; omega)
      have HB10 := hidIt (HB9.out.trans (Below.mono hb10 (by omega)))
      have hme : (r.eraseIdx k).length < r.length := by rw [List.length_eraseIdx_of_lt hk]; omega
      have HLN2 : Hid ((r.eraseIdx k).length ≤ 64 ∧ (ls ++ [c]).length + (r.eraseIdx k).length ≤ 64) := by
        have h1 := HLN.out
        have h2 := HLL.out
        have h3 : (r.eraseIdx k).length = r.length - 1 := List.length_eraseIdx_of_lt hk
        exact ⟨by omega, by omega⟩
      clear hR10 hb10 hk10 HRR9 HK9 HX9 HO9 HB9 c0 lb k0 lk fk HRR8 HK8 HX8 HB8 HO8
      generalize hre : r.eraseIdx k = r2 at *
      clear hre
      go_wp2_with fail
      go_roundw
      case rel => exact ⟨r2, ls ++ [c], l2, listed ||| c, some ⟨g8, 0, none⟩, c8, (by first | rfl | trivial), (by rw [HLL.out]), HLN2.out, HRR10.out, (by rw [HLL.out]; exact HO10.out), HK10.out, HX10.out, HB10.out, HOR2.out, HSS2.out⟩
      case measure => exact hme

theorem clone_empty (ca : Option Addr) (cc : Nat) (w : World) (h : ca = none ∨ ∃ g, ca = some ⟨g, 0, none⟩) :
    Calls Tryd.prog 45 #[.slice ca 0 cc] w fun e w' => ∃ (a : Option Addr) (c : Nat), e = .returned (.slice a 0 c) ∧ Below w.heap.size w w' := by
  rcases h with rfl | ⟨g, rfl⟩
  · refine (Tryd.slices_Clone_nil 0 cc w).mono ?_
    rintro e w' ⟨rfl, rfl⟩
    exact ⟨none, 0, rfl, Below.refl _ _⟩
  · obtain ⟨i0, hi, hz0, hz1, hz2⟩ := info_parts infoU9
    have h := Tryd.slices_Clone i0 _ 1 8 hi hz0 hz1 hz2 rfl (by decide) (fun w => Tryd.sizeOf54 w) g 0 0 cc [] w rfl (by unfold maxLen; omega) (by omega) (fun j u hj => by cases hj) (fun u hu => by cases hu)
    refine h.mono ?_
    rintro e w' ⟨v', rfl, ho, hn, hbel⟩
    obtain ⟨a, c, rfl, -⟩ := shape_own ho
    exact ⟨a, c, rfl, hbel⟩
theorem ordered_empty (N rb : Nat) (ca : Option Addr) (cc : Nat) (w : World) (h : ca = none ∨ ∃ g, ca = some ⟨g, 0, none⟩) :
    Calls Tryd.prog 27 #[.slice ca 0 cc, .slice (some ⟨rb, 0, none⟩) N N] w fun e w' => e = .returned (.slice none 0 0) ∧ Below w.heap.size w w' := by
  have HH := hidIt h
  have HB1 := hidIt (bgrow w (.cells #[.slice (some ⟨rb, 0, none⟩) N N] 49))
  clear h
  go_enter Tryd.func27, Tryd.ntmps27
  go_upto_region 1 with (fail)
  generalize (w.alloc (.cells #[.slice (some ⟨rb, 0, none⟩) N N] 49)) = w1 at *
  go_wp2_with fail
  refine (clone_empty ca cc w1 HH.out).mono ?_
  rintro e w2 ⟨a, c, rfl, hb2⟩
  have HB2 := hidIt (HB1.out.trans (Below.mono hb2 HB1.out.size))
  clear hb2
  go_wp2_with fail
  refine (Tryd.slices_SortFunc_none (α := BitVec 64) a c _ w2).mono ?_
  rintro e w3 ⟨rfl, rfl⟩
  have HB3 := hidIt (HB2.out.trans (Below.mono (bgrow w3 (.cells #[.int .u64 0] 54)) HB2.out.size))
  go_wp2_with fail
  refine wp_loop_rounds 1 ?_
  rw [rounds_succ]
  go_wp2_with fail
  go_ret
  exact ⟨rfl, HB3.out⟩
end Go.Proofs.YtcelijjohcfhkaaDoor
