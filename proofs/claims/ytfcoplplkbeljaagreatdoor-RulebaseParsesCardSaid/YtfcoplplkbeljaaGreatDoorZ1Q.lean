/- The document's own answers about names, texts and literals: what ValidName, Valid, Format, Parse, Compare and Complement of the reference answer: the same as the program's. The document's own answers about literals: Valid, Format, Parse, Compare, Complement of the reference. -/
import Derived.Test.YtfcoplplkbeljaaGreatDoorZ1A

namespace Go.Proofs.YtfcoplplkbeljaaGreatDoor
set_option linter.unusedVariables false
set_option linter.unusedSimpArgs false
open Go.RowKit

theorem okUpto_first (s : ByteArray) (h : 0 < s.size) (hf : fitsB (s[0].toNat : Int) 0 = false) : okUpto s.data.toList s.size = false := by
  refine okUpto_false _ 1 _ (by omega) ?_
  show (okUpto s.data.toList 0 && fitsB ((s.data.toList.getD 0 0).toNat : Int) ((0 : Nat) : Int)) = false
  rw [getD_at s 0 h]
  simpa [okUpto] using hf

set_option maxHeartbeats 1000000 in
theorem rValidName_any (s : ByteArray) (w : World) (hs : s.size ≤ maxLen) :
    Calls Tryz.prog 130 #[.string s] w fun e w' => e = .returned (.bool (vn s)) ∧ w = w' := by
  unfold maxLen at hs
  by_cases h0 : s.size = 0
  · have HV : Hid (vn s = false) := by show vn s = _; simp [vn, h0]
    have h0' : (s.size : Int) < 1 := by omega
    go_enter Tryz.func130, Tryz.ntmps130
    go_wp2
    go_ret
    exact ⟨ret_bool HV.out.symm, rfl⟩
  by_cases h1 : 12 < s.size
  · have HV : Hid (vn s = false) := by show vn s = _; simp [vn]; omega
    have h1' : (12 : Int) < s.size := by omega
    go_enter Tryz.func130, Tryz.ntmps130
    go_wp2
    go_ret
    exact ⟨ret_bool HV.out.symm, rfl⟩
  have hpos : 0 < s.size := by omega
  have hle : s.size ≤ 12 := by omega
  have HV : Hid (vn s = okUpto s.data.toList s.size) := by show vn s = _; simp [vn, hpos, hle]
  have hb : (s[0].toNat : Int) ≤ 255 := by have := s[0].toNat_lt; omega
  by_cases ha : (s[0].toNat : Int) < 97
  · have HF : Hid (vn s = false) := by
      show vn s = _
      rw [HV.out]; exact okUpto_first s hpos (by simp [fitsB]; omega)
    go_enter Tryz.func130, Tryz.ntmps130
    go_wp2
    go_ret
    exact ⟨ret_bool HF.out.symm, rfl⟩
  by_cases hz : (122 : Int) < (s[0].toNat : Int)
  · have HF : Hid (vn s = false) := by
      show vn s = _
      rw [HV.out]; exact okUpto_first s hpos (by simp [fitsB]; omega)
    go_enter Tryz.func130, Tryz.ntmps130
    go_wp2
    go_ret
    exact ⟨ret_bool HF.out.symm, rfl⟩
  have H0 : Hid (97 ≤ (s[0].toNat : Int) ∧ (s[0].toNat : Int) ≤ 122) := ⟨by omega, by omega⟩
  go_enter Tryz.func130, Tryz.ntmps130
  go_wp2
  go_loop [3] (fun i => ∃ k : Nat, k ≤ s.size ∧ i = .int .i64 k ∧ Hid (okUpto s.data.toList k = true)) (fun i => s.size - (intOf i).toNat)
  case atStart => exact ⟨0, Nat.zero_le _, rfl, rfl⟩
  case round =>
    clear ha hz hb
    obtain ⟨k, hk, rfl, hok⟩ := hrel
    by_cases hlt : k < s.size
    · have hbk : (s[k].toNat : Int) ≤ 255 := by have := s[k].toNat_lt; omega
      have hk0 : Hid (k = 0 → 97 ≤ (s[k].toNat : Int) ∧ (s[k].toNat : Int) ≤ 122) := fun e => by subst e; exact H0.out
      have hstep : Hid (okUpto s.data.toList (k + 1) = fitsB (s[k].toNat : Int) (k : Int)) := by
        show _ = _
        rw [okUpto, hok.out, getD_at s k hlt, Bool.true_and]
      obtain ⟨c, hc⟩ : ∃ c : Int, (s[k].toNat : Int) = c := ⟨_, rfl⟩
      have HC := hidIt hc
      have good : Hid (fitsB c (k : Int) = true → okUpto s.data.toList (k + 1) = true) := fun h => by rw [hstep.out, HC.out]; exact h
      have bad : Hid (fitsB c (k : Int) = false → vn s = false) := fun h => by
        rw [HV.out]; exact okUpto_false _ (k + 1) _ (by omega) (by rw [hstep.out, HC.out]; exact h)
      rw [hc] at hbk hk0
      have hc0 : 0 ≤ c := by omega
      clear hc
      by_cases a1 : (s[k].toNat : Int) < 97
      · by_cases a2 : (s[k].toNat : Int) < 48
        · go_wp2
          go_ret
          exact ⟨ret_bool (bad.out (by have := HC.out; simp [fitsB]; omega)).symm, rfl⟩
        · by_cases a3 : (57 : Int) < (s[k].toNat : Int)
          · by_cases a4 : (s[k].toNat : Int) = 95
            · have a4' : ((s[k].toNat : Int) != 95) = false := by rw [a4]; rfl
              have A4 := hidIt a4
              clear a4
              go_wp2
              go_round
              case rel => exact ⟨k + 1, by omega, by go_num, good.out (by have := HC.out; have := A4.out; have := hk0.out; simp [fitsB]; omega)⟩
              case measure => simp [intOf]; omega
            · have a4' : ((s[k].toNat : Int) != 95) = true := by simp only [bne_iff_ne, ne_eq]; exact a4
              go_wp2
              go_ret
              exact ⟨ret_bool (bad.out (by have := HC.out; simp [fitsB]; omega)).symm, rfl⟩
          · go_wp2
            go_round
            case rel => exact ⟨k + 1, by omega, by go_num, good.out (by have := HC.out; have := hk0.out; simp [fitsB]; omega)⟩
            case measure => simp [intOf]; omega
      · by_cases a2 : (122 : Int) < (s[k].toNat : Int)
        · have a4' : ((s[k].toNat : Int) != 95) = true := by simp only [bne_iff_ne, ne_eq]; omega
          go_wp2
          go_ret
          exact ⟨ret_bool (bad.out (by have := HC.out; simp [fitsB]; omega)).symm, rfl⟩
        · go_wp2
          go_round
          case rel => exact ⟨k + 1, by omega, by go_num, good.out (by have := HC.out; simp [fitsB]; omega)⟩
          case measure => simp [intOf]; omega
    · go_wp2
      go_ret
      exact ⟨ret_bool (by rw [HV.out]; obtain rfl : k = s.size := by omega
                          exact hok.out.symm), rfl⟩
end Go.Proofs.YtfcoplplkbeljaaGreatDoor

namespace Go.Proofs.YtfcoplplkbeljaaGreatDoor
set_option linter.unusedVariables false
set_option linter.unusedSimpArgs false
open Go.RowKit
theorem below_of_two {w w1 : World} {a b : Obj} (hb : Below ((w.alloc a).alloc b).heap.size ((w.alloc a).alloc b) w1) : Below w.heap.size w w1 := below_of_alloc (below_of_alloc hb |>.mono (Nat.le_refl _))

set_option maxHeartbeats 400000 in
theorem rValid_any (g : Bool) (s : ByteArray) (w : World) (hs : s.size ≤ maxLen) :
    Calls Tryz.prog 87 #[.agg #[.bool g, .string s]] w fun e w' => e = .returned (.bool (vn s)) ∧ Below w.heap.size w w' := by
  go_enter Tryz.func87, Tryz.ntmps87
  go_wp2_with (go_at_call 130; refine (rValidName_any s _ hs).mono ?_; rintro e w' ⟨rfl, rfl⟩)
  go_ret
  exact ⟨rfl, (Below.refl _ _).alloc (Nat.le_refl _) _⟩

set_option maxHeartbeats 400000 in
theorem rFormat_any (g : Bool) (s : ByteArray) (w : World) (hs : s.size ≤ maxLen) :
    Calls Tryz.prog 88 #[.agg #[.bool g, .string s]] w fun e w' => e = .returned (.string (fmtB g s)) ∧ Below w.heap.size w w' := by
  cases hv : vn s
  · have HE : Hid (fmtB g s = ⟨#[]⟩) := by show _ = _; simp [fmtB, hv]
    go_enter Tryz.func88, Tryz.ntmps88
    go_wp2_with (go_at_call 87; refine (rValid_any g s _ hs).mono ?_; rintro e w' ⟨rfl, hb⟩; have HB := hidIt hb; obtain ⟨c0, c1⟩ := laid_cells hb; clear hb)
    go_ret
    exact ⟨ret_str HE.out.symm, below_of_alloc HB.out⟩
  cases g
  · have HE : Hid (fmtB false s = s) := by show _ = _; simp [fmtB, hv]
    go_enter Tryz.func88, Tryz.ntmps88
    go_wp2_with (go_at_call 87; refine (rValid_any false s _ hs).mono ?_; rintro e w' ⟨rfl, hb⟩; have HB := hidIt hb; obtain ⟨c0, c1⟩ := laid_cells hb; clear hb)
    go_ret
    exact ⟨ret_str HE.out.symm, below_of_alloc HB.out⟩
  · have h12 : s.size ≤ 12 := by
      have := hv
      simp only [vn, Bool.and_eq_true, decide_eq_true_eq] at this
      exact this.1.2
    have HE : Hid (fmtB true s = ⟨#[126]⟩ ++ s) := by show _ = _; simp [fmtB, hv]
    go_enter Tryz.func88, Tryz.ntmps88
    go_wp2_with (go_at_call 87; refine (rValid_any true s _ hs).mono ?_; rintro e w' ⟨rfl, hb⟩; have HB := hidIt hb; obtain ⟨c0, c1⟩ := laid_cells hb; clear hb)
    go_ret
    exact ⟨ret_str HE.out.symm, below_of_alloc HB.out⟩

theorem cutB_first (s : ByteArray) (h : 0 < s.size) : cutB s = ((s[0].toNat : Int) == 126) := by
  rw [cutB_eq]
  have hl : 0 < s.data.toList.length := by rw [← Lib.size_eq]; exact h
  have h2 := getD_at s 0 h
  rw [← h2]
  match s.data.toList, hl with
  | c :: r, _ =>
    simp only [List.take_succ_cons, List.take_zero, List.getD_cons_zero]
    rw [Bool.eq_iff_iff]
    simp only [beq_iff_eq, List.cons.injEq, and_true]
    constructor
    · rintro rfl; rfl
    · intro e
      exact UInt8.toNat_inj.1 (by have : (126 : UInt8).toNat = 126 := rfl; omega)

theorem two_cells {w w1 : World} {a : Obj} {u v : Value} {t : TypeId} (hb : Below ((w.alloc a).alloc (.cells #[u, v] t)).heap.size ((w.alloc a).alloc (.cells #[u, v] t)) w1) :
    w1.cell? ⟨w.heap.size + 1, 0, none⟩ = some u ∧ w1.cell? ⟨w.heap.size + 1, 1, none⟩ = some v := by
  have h := laid_cells (w := w.alloc a) hb
  have e : (w.alloc a).heap.size = w.heap.size + 1 := by simp
  rw [e] at h
  exact h

theorem two_first {w w1 : World} {o : Obj} {u v : Value} {t : TypeId} (hb : Below ((w.alloc (.cells #[u, v] t)).alloc o).heap.size ((w.alloc (.cells #[u, v] t)).alloc o) w1) : w1.heap[w.heap.size]? = some (.cells #[u, v] t (0, 0)) := by
  have h := below_of_alloc hb
  exact laid_two (only_of_below h none) (by simp)

set_option maxHeartbeats 1000000 in
theorem rParse_any (s : ByteArray) (w : World) (hs : s.size ≤ maxLen) :
    Calls Tryz.prog 151 #[.string s] w fun e w' => e = .returned (.tuple #[.agg #[.bool (parsedNeg s), .string (parsedName s)], .int .i64 (parsedErr s)]) ∧ Below w.heap.size w w' := by
  have hs' := hs
  unfold maxLen at hs'
  by_cases hp : 0 < s.size
  · cases hc : cutB s
    · have hbs : bare s = s := by simp [bare, hc]
      have ht : ((s[0].toNat : Int) == 126) = false := by rw [← cutB_first s hp]; exact hc
      have hsz := hs
      cases hv : vn s
      · have HE : Hid (parsedNeg s = false ∧ parsedName s = ⟨#[]⟩ ∧ parsedErr s = 3) := ⟨by simp [parsedNeg, hbs, hv], by simp [parsedName, hbs, hv], by simp [parsedErr, hbs, hv]⟩
        clear hbs
        go_enter Tryz.func151, Tryz.ntmps151
        go_wp2_with fail
        refine (rValid_any false _ _ hsz).mono ?_
        rintro e w1 ⟨rfl, hb⟩
        obtain ⟨c0, c1⟩ := two_cells hb
        have k0 := two_first hb
        have HB := hidIt (below_of_two hb)
        have d0 := cell_two0 k0
        have d1 := cell_two1 k0
        have f0 := free_any k0 0
        have f1 := free_any k0 1
        have hz := lt_of_block k0
        clear hb k0
        go_wp2
        refine bodyPost_ret (v := .tuple #[.agg #[.bool false, .string ⟨#[]⟩], .int .i64 3]) (by simp [results, Tryz.results151, go_sem, d0, d1, hz]) rfl ⟨by rw [HE.out.1, HE.out.2.1, HE.out.2.2], ?_⟩
        exact (HB.out.setCell (Nat.le_refl _) _).setCell (Nat.le_refl _) _
      · have HE : Hid (parsedNeg s = false ∧ parsedName s = s ∧ parsedErr s = 0) := ⟨by simp [parsedNeg, hbs, hv, hc], by simp [parsedName, hbs, hv], by simp [parsedErr, hbs, hv]⟩
        clear hbs
        go_enter Tryz.func151, Tryz.ntmps151
        go_wp2_with fail
        refine (rValid_any false _ _ hsz).mono ?_
        rintro e w1 ⟨rfl, hb⟩
        obtain ⟨c0, c1⟩ := two_cells hb
        have k0 := two_first hb
        have HB := hidIt (below_of_two hb)
        have d0 := cell_two0 k0
        have d1 := cell_two1 k0
        have f0 := free_any k0 0
        have f1 := free_any k0 1
        have hz := lt_of_block k0
        clear hb k0
        go_wp2
        refine bodyPost_ret (v := .tuple #[.agg #[.bool false, .string (s)], .int .i64 0]) (by simp [results, Tryz.results151, go_sem, d0, d1, hz]) rfl ⟨by rw [HE.out.1, HE.out.2.1, HE.out.2.2], ?_⟩
        exact (HB.out.setCell (Nat.le_refl _) _).setCell (Nat.le_refl _) _
    · have hbs : bare s = s.extract 1 s.size := by simp [bare, hc]
      have ht : ((s[0].toNat : Int) == 126) = true := by rw [← cutB_first s hp]; exact hc
      have hsz : (s.extract 1 s.size).size ≤ maxLen := by rw [← hbs]; exact Nat.le_trans (bare_le s) hs
      cases hv : vn (s.extract 1 s.size)
      · have HE : Hid (parsedNeg s = false ∧ parsedName s = ⟨#[]⟩ ∧ parsedErr s = 3) := ⟨by simp [parsedNeg, hbs, hv], by simp [parsedName, hbs, hv], by simp [parsedErr, hbs, hv]⟩
        clear hbs
        go_enter Tryz.func151, Tryz.ntmps151
        go_wp2_with fail
        refine (rValid_any true _ _ hsz).mono ?_
        rintro e w1 ⟨rfl, hb⟩
        obtain ⟨c0, c1⟩ := two_cells hb
        have k0 := two_first hb
        have HB := hidIt (below_of_two hb)
        have d0 := cell_two0 k0
        have d1 := cell_two1 k0
        have f0 := free_any k0 0
        have f1 := free_any k0 1
        have hz := lt_of_block k0
        clear hb k0
        go_wp2
        refine bodyPost_ret (v := .tuple #[.agg #[.bool false, .string ⟨#[]⟩], .int .i64 3]) (by simp [results, Tryz.results151, go_sem, d0, d1, hz]) rfl ⟨by rw [HE.out.1, HE.out.2.1, HE.out.2.2], ?_⟩
        exact (HB.out.setCell (Nat.le_refl _) _).setCell (Nat.le_refl _) _
      · have HE : Hid (parsedNeg s = true ∧ parsedName s = s.extract 1 s.size ∧ parsedErr s = 0) := ⟨by simp [parsedNeg, hbs, hv, hc], by simp [parsedName, hbs, hv], by simp [parsedErr, hbs, hv]⟩
        clear hbs
        go_enter Tryz.func151, Tryz.ntmps151
        go_wp2_with fail
        refine (rValid_any true _ _ hsz).mono ?_
        rintro e w1 ⟨rfl, hb⟩
        obtain ⟨c0, c1⟩ := two_cells hb
        have k0 := two_first hb
        have HB := hidIt (below_of_two hb)
        have d0 := cell_two0 k0
        have d1 := cell_two1 k0
        have f0 := free_any k0 0
        have f1 := free_any k0 1
        have hz := lt_of_block k0
        clear hb k0
        go_wp2
        refine bodyPost_ret (v := .tuple #[.agg #[.bool true, .string (s.extract 1 s.size)], .int .i64 0]) (by simp [results, Tryz.results151, go_sem, d0, d1, hz]) rfl ⟨by rw [HE.out.1, HE.out.2.1, HE.out.2.2], ?_⟩
        exact (HB.out.setCell (Nat.le_refl _) _).setCell (Nat.le_refl _) _
  · have hc : cutB s = false := cutB_empty s (by omega)
    have hbs : bare s = s := by simp [bare, hc]
    have hsz := hs
    cases hv : vn s
    · have HE : Hid (parsedNeg s = false ∧ parsedName s = ⟨#[]⟩ ∧ parsedErr s = 3) := ⟨by simp [parsedNeg, hbs, hv], by simp [parsedName, hbs, hv], by simp [parsedErr, hbs, hv]⟩
      clear hbs
      go_enter Tryz.func151, Tryz.ntmps151
      go_wp2_with fail
      refine (rValid_any false _ _ hsz).mono ?_
      rintro e w1 ⟨rfl, hb⟩
      obtain ⟨c0, c1⟩ := two_cells hb
      have k0 := two_first hb
      have HB := hidIt (below_of_two hb)
      have d0 := cell_two0 k0
      have d1 := cell_two1 k0
      have f0 := free_any k0 0
      have f1 := free_any k0 1
      have hz := lt_of_block k0
      clear hb k0
      go_wp2
      refine bodyPost_ret (v := .tuple #[.agg #[.bool false, .string ⟨#[]⟩], .int .i64 3]) (by simp [results, Tryz.results151, go_sem, d0, d1, hz]) rfl ⟨by rw [HE.out.1, HE.out.2.1, HE.out.2.2], ?_⟩
      exact (HB.out.setCell (Nat.le_refl _) _).setCell (Nat.le_refl _) _
    · have HE : Hid (parsedNeg s = false ∧ parsedName s = s ∧ parsedErr s = 0) := ⟨by simp [parsedNeg, hbs, hv, hc], by simp [parsedName, hbs, hv], by simp [parsedErr, hbs, hv]⟩
      clear hbs
      go_enter Tryz.func151, Tryz.ntmps151
      go_wp2_with fail
      refine (rValid_any false _ _ hsz).mono ?_
      rintro e w1 ⟨rfl, hb⟩
      obtain ⟨c0, c1⟩ := two_cells hb
      have k0 := two_first hb
      have HB := hidIt (below_of_two hb)
      have d0 := cell_two0 k0
      have d1 := cell_two1 k0
      have f0 := free_any k0 0
      have f1 := free_any k0 1
      have hz := lt_of_block k0
      clear hb k0
      go_wp2
      refine bodyPost_ret (v := .tuple #[.agg #[.bool false, .string (s)], .int .i64 0]) (by simp [results, Tryz.results151, go_sem, d0, d1, hz]) rfl ⟨by rw [HE.out.1, HE.out.2.1, HE.out.2.2], ?_⟩
      exact (HB.out.setCell (Nat.le_refl _) _).setCell (Nat.le_refl _) _

set_option maxHeartbeats 400000 in
theorem rComplement_any (x : Lt) (w : World) :
    Calls Tryz.prog 124 #[.agg #[.bool x.neg, .string x.name]] w fun e w' => e = .returned (.agg #[.bool (!x.neg), .string x.name]) ∧ Below w.heap.size w w' := by
  obtain ⟨g, s⟩ := x
  show Calls Tryz.prog 124 #[.agg #[.bool g, .string s]] w _
  go_enter Tryz.func124, Tryz.ntmps124
  go_wp2
  exact bodyPost_ret (v := .agg #[.bool (!g), .string s]) (by simp [results, Tryz.results124, go_sem]) rfl ⟨rfl, ((Below.refl _ _).alloc (Nat.le_refl _) _).alloc (by simp) _⟩

theorem bl_cb : ∀ a b : List UInt8, Op.bytesLess a b = decide (Lib.compareBytes a b < 0)
  | [], [] => by simp [Op.bytesLess, Lib.compareBytes]
  | [], b :: bt1 => by simp [Op.bytesLess, Lib.compareBytes]
  | a :: at1, [] => by simp [Op.bytesLess, Lib.compareBytes]
  | a :: at1, b :: bt1 => by
    have ih := bl_cb at1 bt1
    by_cases h1 : a < b
    · have h2 : ¬ b < a := by rw [UInt8.lt_iff_toNat_lt] at *; omega
      simp [Op.bytesLess, Lib.compareBytes, h1, h2]
    · by_cases h2 : b < a
      · have h3 : a ≠ b := fun e => by subst e; exact h1 h2
        simp [Op.bytesLess, Lib.compareBytes, h1, h2, h3]
      · have e : a = b := by
          rw [UInt8.lt_iff_toNat_lt] at *
          exact UInt8.toNat_inj.1 (by omega)
        subst e
        simp [Op.bytesLess, Lib.compareBytes, h1, ih]

set_option maxHeartbeats 1000000 in
theorem rCompare_any (x y : Lt) (w : World) :
    Calls Tryz.prog 116 #[.agg #[.bool x.neg, .string x.name], .agg #[.bool y.neg, .string y.name]] w fun e w' => e = .returned (.int .i64 (cmpI x y)) ∧ ∃ os, w' = Sort.grow w os := by
  obtain ⟨g, s⟩ := x
  obtain ⟨g', s'⟩ := y
  show Calls Tryz.prog 116 #[.agg #[.bool g, .string s], .agg #[.bool g', .string s']] w _
  have hgd := fun (op : BinOp) (a b : Operand) (w : World) => gdL op a b g g' s s' w
  by_cases he : (⟨g, s⟩ : Lt) = ⟨g', s'⟩
  · have HE : Hid (cmpI ⟨g, s⟩ ⟨g', s'⟩ = 0) := by show _ = _; rw [he]; exact cmpI_self _
    have hq : ∀ w, (Op.equalIn 10000 46 (.agg #[.bool g, .string s]) (.agg #[.bool g', .string s'])).run Tryz.prog w = .ok true w := fun w => by rw [eqFieldsL]; simp only [he, decide_true]
    clear he
    go_enter Tryz.func116, Tryz.ntmps116
    go_wp2
    go_ret
    exact ⟨ret_int HE.out.symm, _, grow_two _ _ _⟩
  · have hq : ∀ w, (Op.equalIn 10000 46 (.agg #[.bool g, .string s]) (.agg #[.bool g', .string s'])).run Tryz.prog w = .ok false w := fun w => by rw [eqFieldsL]; simp only [he, decide_false]
    have H := hidIt he
    clear he
    cases hn : (s.toList == s'.toList)
    · have hne : Hid (cmpI ⟨g, s⟩ ⟨g', s'⟩ = Lib.compareBytes s.data.toList s'.data.toList) := by show _ = _; simp [cmpI, hn]
      have hbl := bl_cb s.toList s'.toList
      rw [Lib.toList_data, Lib.toList_data] at hbl
      have hb0 : Lib.compareBytes s.data.toList s'.data.toList ≠ 0 := fun e => by
        have := cb_eq _ _ e
        rw [Lib.toList_data, Lib.toList_data, this] at hn
        simp at hn
      have hbd := cb_bd s.data.toList s'.data.toList
      cases hl : Op.bytesLess s.toList s'.toList
      · have HE : Hid (cmpI ⟨g, s⟩ ⟨g', s'⟩ = 1) := by
          show _ = _
          rw [hne.out]
          rw [Lib.toList_data, Lib.toList_data, hbl] at hl
          simp only [decide_eq_false_iff_not] at hl
          omega
        clear hbl hb0 hbd
        go_enter Tryz.func116, Tryz.ntmps116
        go_wp2
        go_ret
        exact ⟨ret_int HE.out.symm, _, grow_two _ _ _⟩
      · have HE : Hid (cmpI ⟨g, s⟩ ⟨g', s'⟩ = -1) := by
          show _ = _
          rw [hne.out]
          rw [Lib.toList_data, Lib.toList_data, hbl] at hl
          simp only [decide_eq_true_eq] at hl
          omega
        clear hbl hb0 hbd
        go_enter Tryz.func116, Tryz.ntmps116
        go_wp2
        go_ret
        exact ⟨ret_int HE.out.symm, _, grow_two _ _ _⟩
    · have hss : s = s' := by rw [names_same] at hn; exact of_decide_eq_true hn
      have hl : Op.bytesLess s.toList s'.toList = false := by
        rw [bl_cb, hss, cb_self]; rfl
      have HS := hidIt hss
      clear hss
      cases g'
      · have HE : Hid (cmpI ⟨g, s⟩ ⟨false, s'⟩ = 1) := by
          show _ = _
          cases g
          · exact absurd (by rw [HS.out]) H.out
          · simp only [cmpI, hn]; rfl
        go_enter Tryz.func116, Tryz.ntmps116
        go_wp2
        go_ret
        exact ⟨ret_int HE.out.symm, _, grow_two _ _ _⟩
      · have HE : Hid (cmpI ⟨g, s⟩ ⟨true, s'⟩ = -1) := by
          show _ = _
          cases g
          · simp only [cmpI, hn]; rfl
          · exact absurd (by rw [HS.out]) H.out
        go_enter Tryz.func116, Tryz.ntmps116
        go_wp2
        go_ret
        exact ⟨ret_int HE.out.symm, _, grow_two _ _ _⟩
end Go.Proofs.YtfcoplplkbeljaaGreatDoor
