/- Pairs in a row, however the world grows; what Validate answers; the reference's Validate and Valid. -/
import Derived.Test.YtfiaoibfejginaaDoorG0B
namespace Go.Proofs.YtfiaoibfejginaaDoor
set_option linter.unusedVariables false
set_option linter.unusedSimpArgs false
open Go Go.RowKit Go.Sort

/-- The cells of a list of pairs. -/
def PC (w : World) (a : Option Addr) (xs : List (Int × Int)) : Prop := xs = [] ∨ ∃ b off, a = some ⟨b, off, none⟩ ∧ b < w.heap.size ∧
  ∀ i (h : i < xs.length), w.cell? ⟨b, off + i * 2, none⟩ = some (.int .i64 xs[i].1) ∧ w.cell? ⟨b, off + i * 2 + 1, none⟩ = some (.int .i64 xs[i].2)
theorem PC.go {w w' : World} {a : Option Addr} {xs : List (Int × Int)} (h : PC w a xs) (hb : Below w.heap.size w w') : PC w' a xs := by
  rcases h with h | ⟨b, off, h1, h2, h3⟩
  · exact .inl h
  · exact .inr ⟨b, off, h1, Nat.lt_of_lt_of_le h2 hb.size, fun i hi => ⟨(Below.cell (p := ⟨b, off + i * 2, none⟩) hb h2).trans (h3 i hi).1, (Below.cell (p := ⟨b, off + i * 2 + 1, none⟩) hb h2).trans (h3 i hi).2⟩⟩
theorem PC.at_ {w : World} {a : Option Addr} {xs : List (Int × Int)} (h : PC w a xs) {k : Nat} (hk : k < xs.length) : ∃ b off, a = some ⟨b, off, none⟩ ∧ b < w.heap.size ∧
    ∀ i (h : i < xs.length), w.cell? ⟨b, off + i * 2, none⟩ = some (.int .i64 xs[i].1) ∧ w.cell? ⟨b, off + i * 2 + 1, none⟩ = some (.int .i64 xs[i].2) := by
  rcases h with h | h
  · rw [h] at hk; exact absurd hk (Nat.not_lt_zero _)
  · exact h
theorem PairsAt.pc {w : World} {v : Value} {xs : List (Int × Int)} (h : PairsAt w v xs) : ∃ (a : Option Addr) (c : Nat), v = .slice a xs.length c ∧ PC w a xs := by
  rcases h with ⟨rfl, rfl⟩ | ⟨b, off, cap, rfl, h2, h3, h4, h5⟩
  · exact ⟨none, 0, rfl, .inl rfl⟩
  · exact ⟨_, cap, rfl, .inr ⟨b, off, rfl, h4, fun i hi => by have := h5 i hi; rwa [getElem_bang hi] at this⟩⟩
/-- The cells of a list of numbers. -/
def IC (w : World) (a : Option Addr) (zs : List Int) : Prop := zs = [] ∨ ∃ b off, a = some ⟨b, off, none⟩ ∧ b < w.heap.size ∧
  ∀ i (h : i < zs.length), w.cell? ⟨b, off + i, none⟩ = some (.int .i64 zs[i])
theorem IC.go {w w' : World} {a : Option Addr} {zs : List Int} (h : IC w a zs) (hb : Below w.heap.size w w') : IC w' a zs := by
  rcases h with h | ⟨b, off, h1, h2, h3⟩
  · exact .inl h
  · exact .inr ⟨b, off, h1, Nat.lt_of_lt_of_le h2 hb.size, fun i hi => (Below.cell (p := ⟨b, off + i, none⟩) hb h2).trans (h3 i hi)⟩
theorem IC.at_ {w : World} {a : Option Addr} {zs : List Int} (h : IC w a zs) {k : Nat} (hk : k < zs.length) : ∃ b off, a = some ⟨b, off, none⟩ ∧ b < w.heap.size ∧
    ∀ i (h : i < zs.length), w.cell? ⟨b, off + i, none⟩ = some (.int .i64 zs[i]) := by
  rcases h with h | h
  · rw [h] at hk; exact absurd hk (Nat.not_lt_zero _)
  · exact h
theorem IL.ic {w : World} {v : Value} {zs : List Int} (h : IL w v zs) : ∃ (a : Option Addr) (c : Nat), v = .slice a zs.length c ∧ IC w a zs := by
  rcases h with ⟨rfl, rfl⟩ | ⟨b, off, cap, rfl, h2, h3, h4, h5⟩
  · exact ⟨none, 0, rfl, .inl rfl⟩
  · exact ⟨_, cap, rfl, .inr ⟨b, off, rfl, h4, h5⟩⟩

/-- The first pair is not before the second one. -/
def geP (y x : Int × Int) : Bool := decide (x.1 < y.1 ∨ y.1 = x.1 ∧ x.2 ≤ y.2)
/-- What is found from here on, behind a pair. -/
def valFrom (n : Int) : Option (Int × Int) → List (Int × Int) → Int
  | _, [] => 0
  | p, x :: r => if (ixB x.1 n && ixB x.2 n) = false then 1 else if (match p with | none => false | some y => geP y x) = true then 8 else valFrom n (some x) r
/-- What Validate answers. -/
def valE (n : Int) (xs : List (Int × Int)) : Int := if n < 0 ∨ 40 < n then 1 else valFrom n none xs
def prevAt (xs : List (Int × Int)) (k : Nat) : Option (Int × Int) := if k = 0 then none else xs[k - 1]?
theorem val_step0 {n : Int} {xs : List (Int × Int)} (h : 0 < xs.length) : valFrom n (prevAt xs 0) (xs.drop 0) = if (ixB xs[0].1 n && ixB xs[0].2 n) = false then 1 else valFrom n (prevAt xs 1) (xs.drop 1) := by
  match xs, h with
  | x :: r, _ => rfl
theorem val_step {n : Int} {xs : List (Int × Int)} {k : Nat} (h0 : 1 ≤ k) (h : k < xs.length) : valFrom n (prevAt xs k) (xs.drop k) = if (ixB xs[k].1 n && ixB xs[k].2 n) = false then 1 else if geP xs[k - 1] xs[k] = true then 8 else valFrom n (prevAt xs (k + 1)) (xs.drop (k + 1)) := by
  have e1 : prevAt xs k = some (xs[k - 1]'(by omega)) := by unfold prevAt; rw [if_neg (by omega), List.getElem?_eq_getElem (by omega)]
  have e2 : prevAt xs (k + 1) = some xs[k] := by unfold prevAt; rw [if_neg (by omega), show k + 1 - 1 = k by omega, List.getElem?_eq_getElem h]
  rw [List.drop_eq_getElem_cons h, e1, e2]
  rfl
theorem val_end {n : Int} {xs : List (Int × Int)} {k : Nat} (h : k = xs.length) (p : Option (Int × Int)) : valFrom n p (xs.drop k) = 0 := by
  rw [h, List.drop_length]; rfl

theorem ixB_true {i n : Int} (h : ixB i n = true) : 0 ≤ i ∧ i < n := by
  unfold ixB at h
  simpa using h
theorem ixB_false {i n : Int} (h : ixB i n = false) : i < 0 ∨ n ≤ i := by
  unfold ixB at h
  by_cases h1 : 0 ≤ i
  · right
    simp [h1] at h
    exact h
  · left; omega

set_option maxRecDepth 100000 in
set_option maxHeartbeats 4000000 in
theorem rgValidate_any (n : Int) (v : Value) (xs : List (Int × Int)) (w : World) (h : PairsAt w v xs) (hl : xs.length ≤ 1000000) :
    Calls Tryd.prog 35 #[.agg #[.int .i64 n, v]] w fun e w' => e = .returned (.int .i64 (valE n xs)) ∧ Below w.heap.size w w' := by
  obtain ⟨a, c, rfl, hc⟩ := h.pc
  have HX := hidIt (heap_alloc_new w (.cells #[.int .i64 n, .slice a xs.length c] 24))
  have hB := bgrow w (.cells #[.int .i64 n, .slice a xs.length c] 24)
  have HC := hidIt (hc.go hB)
  have HB := hidIt hB
  have HV : Hid (valE n xs = if n < 0 ∨ 40 < n then 1 else valFrom n none xs) := (rfl : _ = _)
  generalize valE n xs = V at *
  clear hc h hB
  obtain ⟨P, hP⟩ : ∃ P, P = w.heap.size := ⟨_, rfl⟩
  have HP := hidIt hP
  go_enter Tryd.func35, Tryd.ntmps35
  go_upto_region 1 with (fail)
  generalize w.alloc (.cells #[.int .i64 n, .slice a xs.length c] 24) = w1 at *
  rw [← hP] at HX ⊢
  clear hP
  obtain ⟨x0, x1⟩ := And.intro (cell_two0 HX.out) (cell_two1 HX.out)
  have lx := lt_of_block HX.out
  by_cases hn0 : n < 0
  · have HE : Hid (V = 1) := by show _ = _; rw [HV.out, if_pos (.inl hn0)]
    go_wp2_with fail
    go_ret
    exact ⟨ret_int HE.out.symm, HB.out⟩
  by_cases hn1 : 40 < n
  · have HE : Hid (V = 1) := by show _ = _; rw [HV.out, if_pos (.inr hn1)]
    go_wp2_with fail
    go_ret
    exact ⟨ret_int HE.out.symm, HB.out⟩
  have HV2 : Hid (V = valFrom n (prevAt xs 0) (xs.drop 0)) := by show _ = _; rw [HV.out, if_neg (by omega)]; rfl
  clear HV
  obtain ⟨M, hM⟩ : ∃ M, M = xs.length := ⟨_, rfl⟩
  have HM := hidIt hM
  rw [← hM] at hl HX x1 ⊢
  clear hM
  go_wp2_with fail
  go_loopw [3, 4] (fun i _ wr => ∃ k : Nat, k ≤ M ∧ i = .int .i64 k ∧ Hid (Below w1.heap.size w1 wr) ∧ Hid (V = valFrom n (prevAt xs k) (xs.drop k))) (fun i _ _ => M - (intOf i).toNat)
  case atStart => exact ⟨0, Nat.zero_le _, (by first | rfl | trivial), Below.refl _ _, HV2.out⟩
  case round =>
    clear HV2
    obtain ⟨k, hk, rfl, HBr, HV⟩ := hrel
    have hkI0 : (0 : Int) ≤ (k : Int) := by omega
    have HXr := hidIt (blk_kept2 HX.out HBr.out)
    have x0r := cell_two0 HXr.out
    have x1r := cell_two1 HXr.out
    have lxr := lt_of_block HXr.out
    clear x0 x1 lx
    by_cases hlt : k < M
    · have hkI : (k : Int) < (M : Int) := by omega
      have HLT : Hid (k < xs.length) := by show k < _; rw [← HM.out]; exact hlt
      obtain ⟨b, off, rfl, hb, hcs⟩ := (HC.out.go HBr.out).at_ HLT.out
      have HCS := hidIt hcs
      obtain ⟨p0, p1⟩ := hcs k HLT.out
      obtain ⟨x, hx⟩ : ∃ x, x = xs[k]'HLT.out := ⟨_, rfl⟩
      rw [← hx] at p0 p1
      have EX := hidIt hx
      clear hx hcs
      obtain ⟨gx, sx⟩ := x
      simp only at p0 p1
      have hg2 := bgrow wr (.cells #[.int .i64 gx, .int .i64 sx] 45)
      have HQ := hidIt (heap_alloc_new wr (.cells #[.int .i64 gx, .int .i64 sx] 45))
      have HX2 := hidIt (blk_kept2 HXr.out hg2)
      have HB2 := hidIt (HBr.out.trans (Below.mono hg2 HBr.out.size))
      have HCS2 : Hid (∀ i (h : i < xs.length), (wr.alloc (.cells #[.int .i64 gx, .int .i64 sx] 45)).cell? ⟨b, off + i * 2, none⟩ = some (.int .i64 xs[i].1) ∧ (wr.alloc (.cells #[.int .i64 gx, .int .i64 sx] 45)).cell? ⟨b, off + i * 2 + 1, none⟩ = some (.int .i64 xs[i].2)) := fun i hi => ⟨(Below.cell (p := ⟨b, off + i * 2, none⟩) hg2 hb).trans (HCS.out i hi).1, (Below.cell (p := ⟨b, off + i * 2 + 1, none⟩) hg2 hb).trans (HCS.out i hi).2⟩
      have hb2 := Nat.lt_of_lt_of_le hb hg2.size
      clear hg2 HCS
      go_upto_region 7 with (fail)
      generalize wr.alloc (.cells #[.int .i64 gx, .int .i64 sx] 45) = w2 at *
      clear x0r x1r lxr p0 p1 hb
      generalize wr.heap.size = Q at *
      obtain ⟨y0, y1⟩ := And.intro (cell_two0 HQ.out) (cell_two1 HQ.out)
      have ly := lt_of_block HQ.out
      obtain ⟨x0, x1⟩ := And.intro (cell_two0 HX2.out) (cell_two1 HX2.out)
      have lx := lt_of_block HX2.out
      by_cases hix : (ixB gx n && ixB sx n) = true
      rotate_left
      · have HE : Hid (V = 1) := by
          have hxf : (ixB (xs[k]'HLT.out).1 n && ixB (xs[k]'HLT.out).2 n) = false := by rw [← EX.out]; simpa using hix
          show _ = _
          rw [HV.out]
          by_cases hk0 : k = 0
          · subst hk0
            rw [val_step0 HLT.out, if_pos hxf]
          · rw [val_step (by omega) HLT.out, if_pos hxf]
        have HBF := hidIt (HB.out.trans (Below.mono HB2.out HB.out.size))
        by_cases a1 : gx < 0
        · go_wp2_with fail
          go_ret
          exact ⟨ret_int HE.out.symm, HBF.out⟩
        by_cases a2 : n ≤ gx
        · go_wp2_with fail
          go_ret
          exact ⟨ret_int HE.out.symm, HBF.out⟩
        by_cases a3 : sx < 0
        · go_wp2_with fail
          go_ret
          exact ⟨ret_int HE.out.symm, HBF.out⟩
        have a4 : n ≤ sx := by
          have : ixB gx n = true := by unfold ixB; simp; omega
          rw [this, Bool.true_and] at hix
          rcases ixB_false (by simpa using hix : ixB sx n = false) with h | h <;> omega
        go_wp2_with fail
        go_ret
        exact ⟨ret_int HE.out.symm, HBF.out⟩
      rw [Bool.and_eq_true] at hix
      obtain ⟨hix1, hix2⟩ := hix
      have HIX : Hid ((ixB (xs[k]'HLT.out).1 n && ixB (xs[k]'HLT.out).2 n) ≠ false) := by show _ ≠ _; rw [← EX.out]; simp only [hix1, hix2]; decide
      obtain ⟨a1, a2⟩ := ixB_true hix1
      obtain ⟨a3, a4⟩ := ixB_true hix2
      have a1' : ¬ gx < 0 := by omega
      have a2' : ¬ n ≤ gx := by omega
      have a3' : ¬ sx < 0 := by omega
      have a4' : ¬ n ≤ sx := by omega
      clear hix1 hix2
      by_cases hk0 : k = 0
      · subst hk0
        have HVN : Hid (V = valFrom n (prevAt xs (0 + 1)) (xs.drop (0 + 1))) := by show _ = _; rw [HV.out, val_step0 HLT.out, if_neg HIX.out]
        go_wp2_with fail
        go_quiet (fail)
        go_wp2_with fail
        go_roundw
        case rel => exact ⟨0 + 1, by omega, by go_num, ⟨HB2.out.os, HB2.out.tape, HB2.out.output, HB2.out.size, HB2.out.block⟩, HVN.out⟩
        case measure => simp [intOf]; omega
      have hkp : (0 : Int) < (k : Int) := by omega
      have hkm : 0 ≤ (k : Int) - 1 := by omega
      have hkm2 : (k : Int) - 1 < (M : Int) := by omega
      have hwr : IntKind.i64.wrap ((k : Int) - 1) = ((k : Int) - 1) := IntWalk.i64_in _ (by omega)
      obtain ⟨q0, q1⟩ := HCS2.out (k - 1) (by have := HLT.out; omega)
      obtain ⟨y, hy⟩ : ∃ y, y = xs[k - 1]'(by have := HLT.out; omega) := ⟨_, rfl⟩
      rw [← hy] at q0 q1
      have EY := hidIt hy
      clear hy
      obtain ⟨gy, sy⟩ := y
      simp only at q0 q1
      have HVN : Hid (V = if geP (gy, sy) (gx, sx) = true then 8 else valFrom n (prevAt xs (k + 1)) (xs.drop (k + 1))) := by show _ = _; rw [HV.out, val_step (by omega) HLT.out, if_neg HIX.out, EX.out, EY.out]
      have hk1 : 1 ≤ k := by omega
      have hkpn : 0 < k := by omega
      by_cases c1 : gx < gy
      · have HE : Hid (V = 8) := by show _ = _; rw [HVN.out, if_pos (by unfold geP; simp [c1])]
        go_wp2_with fail
        go_quiet (fail)
        go_wp2_with fail
        go_ret
        exact ⟨ret_int HE.out.symm, HB.out.trans (Below.mono ⟨HB2.out.os, HB2.out.tape, HB2.out.output, HB2.out.size, HB2.out.block⟩ HB.out.size)⟩
      by_cases c2 : gy = gx
      · have hc2 : (gy == gx) = true := beq_iff_eq.2 c2
        by_cases c3 : sx ≤ sy
        · have HE : Hid (V = 8) := by show _ = _; rw [HVN.out, if_pos (by unfold geP; simp [c2, c3])]
          go_wp2_with fail
          go_quiet (fail)
          go_wp2_with fail
          go_ret
          exact ⟨ret_int HE.out.symm, HB.out.trans (Below.mono ⟨HB2.out.os, HB2.out.tape, HB2.out.output, HB2.out.size, HB2.out.block⟩ HB.out.size)⟩
        · have HE : Hid (V = valFrom n (prevAt xs (k + 1)) (xs.drop (k + 1))) := by show _ = _; rw [HVN.out, if_neg (by unfold geP; simp [c1, c3])]
          go_wp2_with fail
          go_quiet (fail)
          go_wp2_with fail
          go_roundw
          case rel => exact ⟨k + 1, by omega, by go_num, ⟨HB2.out.os, HB2.out.tape, HB2.out.output, HB2.out.size, HB2.out.block⟩, HE.out⟩
          case measure => simp [intOf]; omega
      · have hc2 : (gy == gx) = false := beq_eq_false_iff_ne.2 c2
        have HE : Hid (V = valFrom n (prevAt xs (k + 1)) (xs.drop (k + 1))) := by show _ = _; rw [HVN.out, if_neg (by unfold geP; simp [c1, c2])]
        have c4 : gy < gx := by omega
        have hd1 : decide (gx < gy) = false := decide_eq_false c1
        clear c2
        go_wp2_with fail
        go_quiet (fail)
        go_wp2_with fail
        go_roundw
        case rel => exact ⟨k + 1, by omega, by go_num, ⟨HB2.out.os, HB2.out.tape, HB2.out.output, HB2.out.size, HB2.out.block⟩, HE.out⟩
        case measure => simp [intOf]; omega
    · have hkI : ¬ (k : Int) < (M : Int) := by omega
      have HE : Hid (V = 0) := by show _ = _; rw [HV.out, val_end (by rw [← HM.out]; omega)]
      have HBF := hidIt (HB.out.trans (Below.mono HBr.out HB.out.size))
      go_wp2_with fail
      go_ret
      exact ⟨ret_int HE.out.symm, HBF.out⟩
end Go.Proofs.YtfiaoibfejginaaDoor
