/- The law FormulaBack: the call answers true for every text and every list of numbers. -/
import Derived.Test.YtmkcohcpdfabbaaDoorTrip
import Derived.Test.YtmkcohcpdfabbaaDoorSmall
import Derived.Test.YtmkcohcpdfabbaaDoorRefW
import Derived.Test.YtmkcohcpdfabbaaDoorQSameG
import Derived.Test.YtmkcohcpdfabbaaDoorQSame
import Derived.Test.YtmkcohcpdfabbaaDoorSForm
import Derived.Test.YtmkcohcpdfabbaaDoorNew
import Derived.Test.YtmkcohcpdfabbaaDoorAwake2
import Derived.Test.YtmkcohcpdfabbaaDoorGrowF
import Derived.Test.YtmkcohcpdfabbaaDoorRelL
namespace Go.Proofs.YtmkcohcpdfabbaaDoor
set_option linter.unusedVariables false
set_option linter.unusedSimpArgs false
open Go Go.RowKit

/-- What Format says of a built formula. -/
theorem built_fmt {n d : Nat} {t : Tree} (h : t.all (nodeG n) = true) (hd : t.depth ≤ d) (hd4 : d ≤ 4) : valE t = 0 ∧ fmtI t = 0 ∧ fmtT t = textB t ∧ (textB t).size ≤ 3000 := by
  have h1 := gen_nodes t d h hd
  have h2 : t.nodes ≤ 121 := Nat.le_trans h1 (by
    have : maxNodes d ≤ maxNodes 4 := by
      rcases (by omega : d = 0 ∨ d = 1 ∨ d = 2 ∨ d = 3 ∨ d = 4) with rfl | rfl | rfl | rfl | rfl <;> decide
    exact Nat.le_trans this (by decide))
  have h3 : t.all nameB = true := all_imp (fun t => nodeG_name) t h
  have h4 := textB_size t h3
  have hv : valE t = 0 := by
    unfold valE
    have : fitsAt 0 0 t = true := by simp [fitsAt]; omega
    simp [this, h3, all_imp (fun t => nodeG_kind) t h]
  have e : fmtI t = 0 := by unfold fmtI; rw [if_pos hv, if_neg (by omega)]
  exact ⟨hv, e, by unfold fmtT; rw [if_pos e], by omega⟩

/-- What Parse gives is valid. -/
theorem parsed_valid {s : ByteArray} (h : (parseT s).2.2 = 0) : valE (parseT s).1 = 0 := by
  unfold parseT at h ⊢
  split at h
  · cases h
  · rename_i hs
    rw [if_neg hs]
    generalize readT s = x at *
    obtain ⟨o, r⟩ := x
    cases o with
    | none => simp [judge] at h
    | some f =>
      simp only [judge] at h ⊢
      split at h
      · rename_i h0
        rw [if_pos h0]
        split at h
        · rename_i hv
          rw [if_pos hv]
          exact hv
        · cases h
      · cases h
theorem valid_fmt {t : Tree} (h : valE t = 0) : (fmtI t = 0 ∧ parseT (fmtT t) = (t, 0, 0) ∧ (fmtT t).size ≤ maxLen) ∨ (fmtI t = 2 ∧ fmtT t = ⟨#[]⟩) := by
  by_cases hs : 4096 < (textB t).size
  · have e : fmtI t = 2 := by unfold fmtI; rw [if_pos h, if_pos hs]
    exact .inr ⟨e, by unfold fmtT; rw [e]; rfl⟩
  · have e : fmtI t = 0 := by unfold fmtI; rw [if_pos h, if_neg hs]
    refine .inl ⟨e, ?_⟩
    unfold fmtT
    rw [if_pos e]
    exact ⟨trip_text h (by omega), by unfold maxLen; omega⟩

set_option maxRecDepth 100000 in
set_option maxHeartbeats 4000000 in
theorem fback_walk (tx : ByteArray) (v : Value) (zs : List Int) (w : World) (hx : tx.size ≤ maxLen) (hz : IntsAt w w.heap.size v zs) (hsg : SignsAt w) : Calls Tryd.prog 5 #[.string tx, v] w fun e w' => e = .returned (.bool true) ∧ Below w.heap.size w w' := by
  have HSG := hidIt hsg
  have HZ := hidIt hz
  have HX := hidIt hx
  clear hsg hz hx
  by_cases hbig : 300 < tx.size
  case pos =>
    have hbig' : (300 : Int) < (tx.size : Int) := by omega
    clear hbig
    go_enter Tryd.func5, Tryd.ntmps5
    go_wp2_with fail
    go_ret
    exact ⟨rfl, Below.refl _ _⟩
  case neg =>
  have hbig' : decide ((300 : Int) < (tx.size : Int)) = false := by simp; omega
  clear hbig
  go_enter Tryd.func5, Tryd.ntmps5
  go_wp2_with fail
  refine (new_any v zs w.heap.size w HZ.out (Nat.le_refl _)).mono ?_
  rintro e w1 ⟨zs1, rfl, hs1, o1, hw1⟩
  have HS1 := hidIt hs1
  have HB1 : Hid (Below w.heap.size w w1) := by rw [hw1]; exact (Below.refl _ _).alloc (Nat.le_refl _) _
  have hsz1 : w.heap.size < w1.heap.size := hs1.lt
  clear hs1 hw1 HZ
  go_wp2_with fail
  refine (sform_any 5 (by omega) (by omega) 4 (by omega) _ _ zs1 0 w1 HS1.out).mono ?_
  rintro e w2 ⟨f, fo, fs, fa, fm, fc, q2, rfl, hf1, hfd, hf3, hs2, hg2⟩
  obtain ⟨hv, hfi, hft, hfz⟩ := built_fmt hf1 hfd (by omega)
  have HV := hidIt hv
  have HFI := hidIt hfi
  have HFT := hidIt hft
  have HF2 := hidIt hf3.free
  have HB2 := hidIt (below_of_only (only_trans (only_of_below HB1.out (some w.heap.size)) hg2) (Nat.le_refl _))
  have HT1 := hidIt (trip_text hv (by omega))
  have HT2 := hidIt (trip_spaces hv (by omega))
  have HT3 := hidIt (trip_pars hv (by omega))
  clear hf1 hfd hf3 hs2 hg2 HS1 HB1 hv hfi hft
  go_wp2_with fail
  have hgr := Grows.alloc w2 (.cells #[.int .i64 fo, .string fs, .slice fa fm fc] 24)
  have HK3 := hidIt (heap_alloc_new w2 (.cells #[.int .i64 fo, .string fs, .slice fa fm fc] 24))
  have HF3 := hidIt (HF2.out.go hgr)
  have HB3 := hidIt (HB2.out.trans (Below.mono hgr HB2.out.size))
  clear hgr HF2 HB2
  refine (fformat_any f _ _ HF3.out).mono ?_
  rintro e w4 ⟨rfl, hb⟩
  rw [HFT.out, HFI.out]
  generalize (w2.alloc (.cells #[.int .i64 fo, .string fs, .slice fa fm fc] 24)) = w3 at *
  generalize w2.heap.size = pf at *
  have HK4 := hidIt (blk_kept HK3.out hb)
  have HF4 := hidIt (HF3.out.go hb)
  have HB4 := hidIt (HB3.out.trans (Below.mono hb HB3.out.size))
  clear hb HK3 HF3 HB3 HFT HFI
  generalize textB f = t at *
  go_wp2_with fail
  have hs2 : (⟨#[32, 32]⟩ ++ t : ByteArray).size ≤ maxLen := by
    rw [ByteArray.size_append]
    have e1 : (⟨#[32, 32]⟩ : ByteArray).size = 2 := rfl
    unfold maxLen
    omega
  have hs3 : (⟨#[40, 40]⟩ ++ t ++ ⟨#[32, 41, 32, 41]⟩ : ByteArray).size ≤ maxLen := by
    rw [ByteArray.size_append, ByteArray.size_append]
    have e1 : (⟨#[40, 40]⟩ : ByteArray).size = 2 := rfl
    have e2 : (⟨#[32, 41, 32, 41]⟩ : ByteArray).size = 4 := rfl
    unfold maxLen
    omega
  have hs1 : t.size ≤ maxLen := by unfold maxLen; omega
  generalize (⟨#[40, 40]⟩ ++ t ++ ⟨#[32, 41, 32, 41]⟩ : ByteArray) = u3 at *
  generalize (⟨#[32, 32]⟩ ++ t : ByteArray) = u2 at *
  have hgr := Grows.alloc w4 (.cells #[.string t, .string u2, .string u3] 9)
  have HR5 := hidIt (heap_alloc_new w4 (.cells #[.string t, .string u2, .string u3] 9))
  have HK5 := hidIt (blk_kept HK4.out hgr)
  have HF5 := hidIt (HF4.out.go hgr)
  have HB5 := hidIt (HB4.out.trans (Below.mono hgr HB4.out.size))
  clear hgr HK4 HF4 HB4
  generalize (w4.alloc (.cells #[.string t, .string u2, .string u3] 9)) = w5 at *
  generalize w4.heap.size = pl at *
  have HU : Hid (∀ k, k < 3 → ∃ u : ByteArray, w5.cell? ⟨pl, k, none⟩ = some (.string u) ∧ parseT u = (f, 0, 0) ∧ u.size ≤ maxLen) := fun k hk => by
    obtain ⟨c0, c1, c2⟩ := cell_of3 HR5.out
    rcases (by omega : k = 0 ∨ k = 1 ∨ k = 2) with rfl | rfl | rfl
    · exact ⟨t, c0, HT1.out, hs1⟩
    · exact ⟨u2, c1, HT2.out, hs2⟩
    · exact ⟨u3, c2, HT3.out, hs3⟩
  have hpl := lt_of_block HR5.out
  clear hs1 hs2 hs3 HT1 HT2 HT3 hfz
  go_loopw [10, 11, 12, 13, 52] (fun _ _ _ _ i wr => ∃ k : Nat, k ≤ 3 ∧ i = .int .i64 k ∧ Hid (Below w5.heap.size w5 wr)) (fun _ _ _ _ i _ => 3 - (intOf i).toNat)
  case atStart => exact ⟨0, Nat.zero_le _, rfl, Below.refl _ _⟩
  case round =>
    obtain ⟨k, hk, rfl, hbel⟩ := hrel
    have HBw := hidIt (HB5.out.trans (hbel.out.mono HB5.out.size))
    by_cases hlt : k < 3
    · obtain ⟨u, c0', hu, hus⟩ := HU.out k hlt
      have c0 := (hbel.out.cell (p := ⟨pl, k, none⟩) hpl).trans c0'
      have hlt0 : (k : Int) < 3 := by omega
      have hk0 : (0 : Int) ≤ (k : Int) := by omega
      have HPU := hidIt hu
      have HUS := hidIt hus
      have HSGw := hidIt (HSG.out.go HBw.out)
      clear c0' hu hus
      go_wp2_with fail
      refine (parse_any u HUS.out _ HSGw.out).mono ?_
      rintro e w6 ⟨o, nm, a, n, c, rfl, hf6, hb6⟩
      rw [HPU.out] at hf6 ⊢
      have hgr := Grows.alloc w6 (.cells #[.int .i64 o, .string nm, .slice a n c] 24)
      have h56 : Below w5.heap.size w5 (w6.alloc (.cells #[.int .i64 o, .string nm, .slice a n c] 24)) := (hbel.out.trans (Below.mono hb6 hbel.out.size)).alloc (hbel.out.trans (Below.mono hb6 hbel.out.size)).size _
      have HB7 := hidIt h56
      have HG7 := hidIt (hf6.free.go hgr)
      have HD7 := hidIt (heap_alloc_new w6 (.cells #[.int .i64 o, .string nm, .slice a n c] 24))
      have HF7 := hidIt (HF5.out.go h56)
      have HK7 := hidIt (blk_kept HK5.out h56)
      clear hf6 hb6 hgr h56 c0
      obtain ⟨f0, f1, f2⟩ := cell_of3 HK7.out
      have fl := lt_of_block HK7.out
      go_wp2_with fail
      refine (qsame_true f _ _ _ HF7.out HG7.out).mono ?_
      rintro e w8 ⟨rfl, hb8⟩
      have HB8 := hidIt (HB7.out.trans (Below.mono hb8 HB7.out.size))
      clear hb8 f0 f1 f2 fl
      go_wp2_with fail
      go_roundw
      case rel => exact ⟨k + 1, by omega, by go_num, HB8.out⟩
      case measure => simp [intOf]; omega
    · obtain rfl : k = 3 := by omega
      have HSGw := hidIt (HSG.out.go HBw.out)
      go_wp2_with fail
      refine (parse_any tx HX.out _ HSGw.out).mono ?_
      rintro e w6 ⟨o, nm, a, n, c, rfl, hf6, hb6⟩
      have HPV := hidIt (parsed_valid (s := tx))
      generalize (parseT tx).2.2 = E at *
      generalize (parseT tx).2.1 = N at *
      generalize (parseT tx).1 = g at *
      have hgr := Grows.alloc w6 (.cells #[.int .i64 o, .string nm, .slice a n c] 24)
      have h7 : Below w.heap.size w (w6.alloc (.cells #[.int .i64 o, .string nm, .slice a n c] 24)) := (HBw.out.trans (Below.mono hb6 HBw.out.size)).alloc (HBw.out.trans (Below.mono hb6 HBw.out.size)).size _
      have HB7 := hidIt h7
      have HSG7 := hidIt (HSG.out.go h7)
      have HG7 := hidIt (hf6.free.go hgr)
      have HD7 := hidIt (heap_alloc_new w6 (.cells #[.int .i64 o, .string nm, .slice a n c] 24))
      clear hf6 hb6 hgr h7 HSGw HBw hbel
      by_cases hE : E = 0
      case neg =>
        have e0 : (E == 0) = false := by rw [beq_eq_false_iff_ne]; exact hE
        clear hE
        go_wp2_with fail
        refine (awake2_any _ HSG7.out).mono ?_
        rintro e w8 ⟨rfl, hb8⟩
        have HB8 := hidIt (HB7.out.trans (hb8.mono HB7.out.size))
        clear hb8
        go_wp2_with fail
        go_ret
        exact ⟨rfl, HB8.out⟩
      case pos =>
      subst hE
      have HVG := hidIt (valid_fmt (HPV.out rfl))
      clear HPV
      obtain ⟨f0, f1, f2⟩ := cell_of3 HD7.out
      have fl := lt_of_block HD7.out
      go_wp2_with fail
      generalize (w6.alloc (.cells #[.int .i64 o, .string nm, .slice a n c] 24)) = w7 at *
      generalize w6.heap.size = pg at *
      clear f0 f1 f2 fl
      refine (fformat_any g _ _ HG7.out).mono ?_
      rintro e w8 ⟨rfl, hb⟩
      have HB8 := hidIt (HB7.out.trans (Below.mono hb HB7.out.size))
      have HSG8 := hidIt (HSG7.out.go hb)
      have HG8 := hidIt (HG7.out.go hb)
      have HD8 := hidIt (blk_kept HD7.out hb)
      clear hb HB7 HSG7 HG7 HD7
      rcases HVG.out with ⟨v1, v2, v3⟩ | ⟨v1, v2⟩
      · rw [v1]
        generalize fmtT g = y at *
        have HY := hidIt v2
        have HYS := hidIt v3
        clear v1 v2 v3 HVG
        go_wp2_with fail
        refine (parse_any y HYS.out _ HSG8.out).mono ?_
        rintro e w9 ⟨o', nm', a', n', c', rfl, hf9, hb9⟩
        rw [HY.out] at hf9 ⊢
        have hgr := Grows.alloc w9 (.cells #[.int .i64 o', .string nm', .slice a' n' c'] 24)
        have hb10 : Below w8.heap.size w8 (w9.alloc (.cells #[.int .i64 o', .string nm', .slice a' n' c'] 24)) := hb9.alloc hb9.size _
        have HB10 := hidIt (HB8.out.trans (Below.mono hb10 HB8.out.size))
        have HSG10 := hidIt (HSG8.out.go hb10)
        have HG10 := hidIt (HG8.out.go hb10)
        have HD10 := hidIt (blk_kept HD8.out hb10)
        have HK10 := hidIt (hf9.free.go hgr)
        have HE10 := hidIt (heap_alloc_new w9 (.cells #[.int .i64 o', .string nm', .slice a' n' c'] 24))
        clear hf9 hb9 hgr hb10
        obtain ⟨f0, f1, f2⟩ := cell_of3 HD10.out
        have fl := lt_of_block HD10.out
        go_wp2_with fail
        refine (qsame_true g _ _ _ HG10.out HK10.out).mono ?_
        rintro e w11 ⟨rfl, hb⟩
        have HB11 := hidIt (HB10.out.trans (Below.mono hb HB10.out.size))
        have HSG11 := hidIt (HSG10.out.go hb)
        clear hb f0 f1 f2 fl
        go_wp2_with fail
        refine (awake2_any _ HSG11.out).mono ?_
        rintro e w12 ⟨rfl, hb⟩
        have HB12 := hidIt (HB11.out.trans (hb.mono HB11.out.size))
        clear hb
        go_wp2_with fail
        go_ret
        exact ⟨rfl, HB12.out⟩
      · rw [v1, v2]
        clear v1 v2 HVG
        go_wp2_with fail
        refine (parse_any ⟨#[]⟩ nil_le _ HSG8.out).mono ?_
        rintro e w9 ⟨o', nm', a', n', c', rfl, hf9, hb9⟩
        have hb10 : Below w8.heap.size w8 (w9.alloc (.cells #[.int .i64 o', .string nm', .slice a' n' c'] 24)) := hb9.alloc hb9.size _
        have HB10 := hidIt (HB8.out.trans (Below.mono hb10 HB8.out.size))
        have HSG10 := hidIt (HSG8.out.go hb10)
        clear hf9 hb9 hb10
        generalize (parseT ⟨#[]⟩).2.2 = E2 at *
        generalize (parseT ⟨#[]⟩).2.1 = N2 at *
        go_wp2_with fail
        refine (awake2_any _ HSG10.out).mono ?_
        rintro e w12 ⟨rfl, hb⟩
        have HB12 := hidIt (HB10.out.trans (hb.mono HB10.out.size))
        clear hb
        go_wp2_with fail
        go_ret
        exact ⟨rfl, HB12.out⟩
end Go.Proofs.YtmkcohcpdfabbaaDoor
