/- The document's own answers about literals: Valid, Format, Parse, Compare, Complement of the reference. -/
import Derived.Test.YtbldlngblmegfaaRefT
import Derived.Test.YtbldlngblmegfaaAwake
namespace Go.Proofs.Ytbldlngblmegfaa
open Go.RowKit

set_option maxHeartbeats 400000 in
theorem rValid_any (g : Bool) (s : ByteArray) (w : World) (hs : s.size ≤ maxLen) :
    Calls Try.prog 15 #[.agg #[.bool g, .string s]] w fun e w' => e = .returned (.bool (vn s)) ∧ Below w.heap.size w w' := by
  go_enter Try.func15, Try.ntmps15
  go_wp2_with (go_at_call 13; refine (rValidName_any s _ hs).mono ?_; rintro e w' ⟨rfl, rfl⟩)
  go_ret
  exact ⟨rfl, (Below.refl _ _).alloc (Nat.le_refl _) _⟩

set_option maxHeartbeats 400000 in
theorem rFormat_any (g : Bool) (s : ByteArray) (w : World) (hs : s.size ≤ maxLen) :
    Calls Try.prog 17 #[.agg #[.bool g, .string s]] w fun e w' => e = .returned (.string (fmtB g s)) ∧ Below w.heap.size w w' := by
  cases hv : vn s
  · have HE : Hid (fmtB g s = ⟨#[]⟩) := by show _ = _; simp [fmtB, hv]
    go_enter Try.func17, Try.ntmps17
    go_wp2_with (go_at_call 15; refine (rValid_any g s _ hs).mono ?_; rintro e w' ⟨rfl, hb⟩; have HB := hidIt hb; obtain ⟨c0, c1⟩ := laid_cells hb; clear hb)
    go_ret
    exact ⟨ret_str HE.out.symm, below_of_alloc HB.out⟩
  cases g
  · have HE : Hid (fmtB false s = s) := by show _ = _; simp [fmtB, hv]
    go_enter Try.func17, Try.ntmps17
    go_wp2_with (go_at_call 15; refine (rValid_any false s _ hs).mono ?_; rintro e w' ⟨rfl, hb⟩; have HB := hidIt hb; obtain ⟨c0, c1⟩ := laid_cells hb; clear hb)
    go_ret
    exact ⟨ret_str HE.out.symm, below_of_alloc HB.out⟩
  · have h12 : s.size ≤ 12 := by
      have := hv
      simp only [vn, Bool.and_eq_true, decide_eq_true_eq] at this
      exact this.1.2
    have HE : Hid (fmtB true s = ⟨#[126]⟩ ++ s) := by show _ = _; simp [fmtB, hv]
    go_enter Try.func17, Try.ntmps17
    go_wp2_with (go_at_call 15; refine (rValid_any true s _ hs).mono ?_; rintro e w' ⟨rfl, hb⟩; have HB := hidIt hb; obtain ⟨c0, c1⟩ := laid_cells hb; clear hb)
    go_ret
    exact ⟨ret_str HE.out.symm, below_of_alloc HB.out⟩

theorem cutB_first (s : ByteArray) (h : 0 < s.size) : cutB s = ((s[0].toNat : Int) == 126) := by
  rw [cutB_eq]
  have hl : 0 < s.data.toList.length := by rw [← Lib.size_eq]; exact h
  have h2 := getD_at s 0 h
  rw [← h2]
  match s.data.toList, hl with
  | c :: r, _ =>
    simp only [List.take_succ_cons, List.take_zero, List.getD_cons_zero]
    rw [Bool.eq_iff_iff]
    simp only [beq_iff_eq, List.cons.injEq, and_true]
    constructor
    · rintro rfl; rfl
    · intro e
      exact UInt8.toNat_inj.1 (by have : (126 : UInt8).toNat = 126 := rfl; omega)

theorem two_cells {w w1 : World} {a : Obj} {u v : Value} {t : TypeId} (hb : Below ((w.alloc a).alloc (.cells #[u, v] t)).heap.size ((w.alloc a).alloc (.cells #[u, v] t)) w1) :
    w1.cell? ⟨w.heap.size + 1, 0, none⟩ = some u ∧ w1.cell? ⟨w.heap.size + 1, 1, none⟩ = some v := by
  have h := laid_cells (w := w.alloc a) hb
  have e : (w.alloc a).heap.size = w.heap.size + 1 := by simp
  rw [e] at h
  exact h

theorem two_first {w w1 : World} {o : Obj} {u v : Value} {t : TypeId} (hb : Below ((w.alloc (.cells #[u, v] t)).alloc o).heap.size ((w.alloc (.cells #[u, v] t)).alloc o) w1) : w1.heap[w.heap.size]? = some (.cells #[u, v] t (0, 0)) := by
  have h := below_of_alloc hb
  exact laid_two (only_of_below h none) (by simp)

set_option maxHeartbeats 1000000 in
theorem rParse_any (s : ByteArray) (w : World) (hs : s.size ≤ maxLen) :
    Calls Try.prog 19 #[.string s] w fun e w' => e = .returned (.tuple #[.agg #[.bool (parsedNeg s), .string (parsedName s)], .int .i64 (parsedErr s)]) ∧ Below w.heap.size w w' := by
  have hs' := hs
  unfold maxLen at hs'
  by_cases hp : 0 < s.size
  · cases hc : cutB s
    · have hbs : bare s = s := by simp [bare, hc]
      have ht : ((s[0].toNat : Int) == 126) = false := by rw [← cutB_first s hp]; exact hc
      have hsz := hs
      cases hv : vn s
      · have HE : Hid (parsedNeg s = false ∧ parsedName s = ⟨#[]⟩ ∧ parsedErr s = 3) := ⟨by simp [parsedNeg, hbs, hv], by simp [parsedName, hbs, hv], by simp [parsedErr, hbs, hv]⟩
        clear hbs
        go_enter Try.func19, Try.ntmps19
        go_wp2_with fail
        refine (rValid_any false _ _ hsz).mono ?_
        rintro e w1 ⟨rfl, hb⟩
        obtain ⟨c0, c1⟩ := two_cells hb
        have k0 := two_first hb
        have HB := hidIt (below_of_two hb)
        have d0 := cell_two0 k0
        have d1 := cell_two1 k0
        have f0 := free_any k0 0
        have f1 := free_any k0 1
        have hz := lt_of_block k0
        clear hb k0
        go_wp2
        refine bodyPost_ret (v := .tuple #[.agg #[.bool false, .string ⟨#[]⟩], .int .i64 3]) (by simp [results, Try.results19, go_sem, d0, d1, hz]) rfl ⟨by rw [HE.out.1, HE.out.2.1, HE.out.2.2], ?_⟩
        exact (HB.out.setCell (Nat.le_refl _) _).setCell (Nat.le_refl _) _
      · have HE : Hid (parsedNeg s = false ∧ parsedName s = s ∧ parsedErr s = 0) := ⟨by simp [parsedNeg, hbs, hv, hc], by simp [parsedName, hbs, hv], by simp [parsedErr, hbs, hv]⟩
        clear hbs
        go_enter Try.func19, Try.ntmps19
        go_wp2_with fail
        refine (rValid_any false _ _ hsz).mono ?_
        rintro e w1 ⟨rfl, hb⟩
        obtain ⟨c0, c1⟩ := two_cells hb
        have k0 := two_first hb
        have HB := hidIt (below_of_two hb)
        have d0 := cell_two0 k0
        have d1 := cell_two1 k0
        have f0 := free_any k0 0
        have f1 := free_any k0 1
        have hz := lt_of_block k0
        clear hb k0
        go_wp2
        refine bodyPost_ret (v := .tuple #[.agg #[.bool false, .string (s)], .int .i64 0]) (by simp [results, Try.results19, go_sem, d0, d1, hz]) rfl ⟨by rw [HE.out.1, HE.out.2.1, HE.out.2.2], ?_⟩
        exact (HB.out.setCell (Nat.le_refl _) _).setCell (Nat.le_refl _) _
    · have hbs : bare s = s.extract 1 s.size := by simp [bare, hc]
      have ht : ((s[0].toNat : Int) == 126) = true := by rw [← cutB_first s hp]; exact hc
      have hsz : (s.extract 1 s.size).size ≤ maxLen := by rw [← hbs]; exact Nat.le_trans (bare_le s) hs
      cases hv : vn (s.extract 1 s.size)
      · have HE : Hid (parsedNeg s = false ∧ parsedName s = ⟨#[]⟩ ∧ parsedErr s = 3) := ⟨by simp [parsedNeg, hbs, hv], by simp [parsedName, hbs, hv], by simp [parsedErr, hbs, hv]⟩
        clear hbs
        go_enter Try.func19, Try.ntmps19
        go_wp2_with fail
        refine (rValid_any true _ _ hsz).mono ?_
        rintro e w1 ⟨rfl, hb⟩
        obtain ⟨c0, c1⟩ := two_cells hb
        have k0 := two_first hb
        have HB := hidIt (below_of_two hb)
        have d0 := cell_two0 k0
        have d1 := cell_two1 k0
        have f0 := free_any k0 0
        have f1 := free_any k0 1
        have hz := lt_of_block k0
        clear hb k0
        go_wp2
        refine bodyPost_ret (v := .tuple #[.agg #[.bool false, .string ⟨#[]⟩], .int .i64 3]) (by simp [results, Try.results19, go_sem, d0, d1, hz]) rfl ⟨by rw [HE.out.1, HE.out.2.1, HE.out.2.2], ?_⟩
        exact (HB.out.setCell (Nat.le_refl _) _).setCell (Nat.le_refl _) _
      · have HE : Hid (parsedNeg s = true ∧ parsedName s = s.extract 1 s.size ∧ parsedErr s = 0) := ⟨by simp [parsedNeg, hbs, hv, hc], by simp [parsedName, hbs, hv], by simp [parsedErr, hbs, hv]⟩
        clear hbs
        go_enter Try.func19, Try.ntmps19
        go_wp2_with fail
        refine (rValid_any true _ _ hsz).mono ?_
        rintro e w1 ⟨rfl, hb⟩
        obtain ⟨c0, c1⟩ := two_cells hb
        have k0 := two_first hb
        have HB := hidIt (below_of_two hb)
        have d0 := cell_two0 k0
        have d1 := cell_two1 k0
        have f0 := free_any k0 0
        have f1 := free_any k0 1
        have hz := lt_of_block k0
        clear hb k0
        go_wp2
        refine bodyPost_ret (v := .tuple #[.agg #[.bool true, .string (s.extract 1 s.size)], .int .i64 0]) (by simp [results, Try.results19, go_sem, d0, d1, hz]) rfl ⟨by rw [HE.out.1, HE.out.2.1, HE.out.2.2], ?_⟩
        exact (HB.out.setCell (Nat.le_refl _) _).setCell (Nat.le_refl _) _
  · have hc : cutB s = false := cutB_empty s (by omega)
    have hbs : bare s = s := by simp [bare, hc]
    have hsz := hs
    cases hv : vn s
    · have HE : Hid (parsedNeg s = false ∧ parsedName s = ⟨#[]⟩ ∧ parsedErr s = 3) := ⟨by simp [parsedNeg, hbs, hv], by simp [parsedName, hbs, hv], by simp [parsedErr, hbs, hv]⟩
      clear hbs
      go_enter Try.func19, Try.ntmps19
      go_wp2_with fail
      refine (rValid_any false _ _ hsz).mono ?_
      rintro e w1 ⟨rfl, hb⟩
      obtain ⟨c0, c1⟩ := two_cells hb
      have k0 := two_first hb
      have HB := hidIt (below_of_two hb)
      have d0 := cell_two0 k0
      have d1 := cell_two1 k0
      have f0 := free_any k0 0
      have f1 := free_any k0 1
      have hz := lt_of_block k0
      clear hb k0
      go_wp2
      refine bodyPost_ret (v := .tuple #[.agg #[.bool false, .string ⟨#[]⟩], .int .i64 3]) (by simp [results, Try.results19, go_sem, d0, d1, hz]) rfl ⟨by rw [HE.out.1, HE.out.2.1, HE.out.2.2], ?_⟩
      exact (HB.out.setCell (Nat.le_refl _) _).setCell (Nat.le_refl _) _
    · have HE : Hid (parsedNeg s = false ∧ parsedName s = s ∧ parsedErr s = 0) := ⟨by simp [parsedNeg, hbs, hv, hc], by simp [parsedName, hbs, hv], by simp [parsedErr, hbs, hv]⟩
      clear hbs
      go_enter Try.func19, Try.ntmps19
      go_wp2_with fail
      refine (rValid_any false _ _ hsz).mono ?_
      rintro e w1 ⟨rfl, hb⟩
      obtain ⟨c0, c1⟩ := two_cells hb
      have k0 := two_first hb
      have HB := hidIt (below_of_two hb)
      have d0 := cell_two0 k0
      have d1 := cell_two1 k0
      have f0 := free_any k0 0
      have f1 := free_any k0 1
      have hz := lt_of_block k0
      clear hb k0
      go_wp2
      refine bodyPost_ret (v := .tuple #[.agg #[.bool false, .string (s)], .int .i64 0]) (by simp [results, Try.results19, go_sem, d0, d1, hz]) rfl ⟨by rw [HE.out.1, HE.out.2.1, HE.out.2.2], ?_⟩
      exact (HB.out.setCell (Nat.le_refl _) _).setCell (Nat.le_refl _) _

set_option maxHeartbeats 400000 in
theorem rComplement_any (x : Lt) (w : World) :
    Calls Try.prog 22 #[.agg #[.bool x.neg, .string x.name]] w fun e w' => e = .returned (.agg #[.bool (!x.neg), .string x.name]) ∧ Below w.heap.size w w' := by
  obtain ⟨g, s⟩ := x
  show Calls Try.prog 22 #[.agg #[.bool g, .string s]] w _
  go_enter Try.func22, Try.ntmps22
  go_wp2
  exact bodyPost_ret (v := .agg #[.bool (!g), .string s]) (by simp [results, Try.results22, go_sem]) rfl ⟨rfl, ((Below.refl _ _).alloc (Nat.le_refl _) _).alloc (by simp) _⟩

theorem bl_cb : ∀ a b : List UInt8, Op.bytesLess a b = decide (Lib.compareBytes a b < 0)
  | [], [] => by simp [Op.bytesLess, Lib.compareBytes]
  | [], b :: bt1 => by simp [Op.bytesLess, Lib.compareBytes]
  | a :: at1, [] => by simp [Op.bytesLess, Lib.compareBytes]
  | a :: at1, b :: bt1 => by
    have ih := bl_cb at1 bt1
    by_cases h1 : a < b
    · have h2 : ¬ b < a := by rw [UInt8.lt_iff_toNat_lt] at *; omega
      simp [Op.bytesLess, Lib.compareBytes, h1, h2]
    · by_cases h2 : b < a
      · have h3 : a ≠ b := fun e => by subst e; exact h1 h2
        simp [Op.bytesLess, Lib.compareBytes, h1, h2, h3]
      · have e : a = b := by
          rw [UInt8.lt_iff_toNat_lt] at *
          exact UInt8.toNat_inj.1 (by omega)
        subst e
        simp [Op.bytesLess, Lib.compareBytes, h1, ih]

set_option maxHeartbeats 1000000 in
theorem rCompare_any (x y : Lt) (w : World) :
    Calls Try.prog 24 #[.agg #[.bool x.neg, .string x.name], .agg #[.bool y.neg, .string y.name]] w fun e w' => e = .returned (.int .i64 (cmpI x y)) ∧ ∃ os, w' = Sort.grow w os := by
  obtain ⟨g, s⟩ := x
  obtain ⟨g', s'⟩ := y
  show Calls Try.prog 24 #[.agg #[.bool g, .string s], .agg #[.bool g', .string s']] w _
  have hgd := fun (op : BinOp) (a b : Operand) (w : World) => gdL op a b g g' s s' w
  by_cases he : (⟨g, s⟩ : Lt) = ⟨g', s'⟩
  · have HE : Hid (cmpI ⟨g, s⟩ ⟨g', s'⟩ = 0) := by show _ = _; rw [he]; exact cmpI_self _
    have hq : ∀ w, (Op.equalIn 10000 23 (.agg #[.bool g, .string s]) (.agg #[.bool g', .string s'])).run Try.prog w = .ok true w := fun w => by rw [eqFieldsL]; simp only [he, decide_true]
    clear he
    go_enter Try.func24, Try.ntmps24
    go_wp2
    go_ret
    exact ⟨ret_int HE.out.symm, _, grow_two _ _ _⟩
  · have hq : ∀ w, (Op.equalIn 10000 23 (.agg #[.bool g, .string s]) (.agg #[.bool g', .string s'])).run Try.prog w = .ok false w := fun w => by rw [eqFieldsL]; simp only [he, decide_false]
    have H := hidIt he
    clear he
    cases hn : (s.toList == s'.toList)
    · have hne : Hid (cmpI ⟨g, s⟩ ⟨g', s'⟩ = Lib.compareBytes s.data.toList s'.data.toList) := by show _ = _; simp [cmpI, hn]
      have hbl := bl_cb s.toList s'.toList
      rw [Lib.toList_data, Lib.toList_data] at hbl
      have hb0 : Lib.compareBytes s.data.toList s'.data.toList ≠ 0 := fun e => by
        have := cb_eq _ _ e
        rw [Lib.toList_data, Lib.toList_data, this] at hn
        simp at hn
      have hbd := cb_bd s.data.toList s'.data.toList
      cases hl : Op.bytesLess s.toList s'.toList
      · have HE : Hid (cmpI ⟨g, s⟩ ⟨g', s'⟩ = 1) := by
          show _ = _
          rw [hne.out]
          rw [Lib.toList_data, Lib.toList_data, hbl] at hl
          simp only [decide_eq_false_iff_not] at hl
          omega
        clear hbl hb0 hbd
        go_enter Try.func24, Try.ntmps24
        go_wp2
        go_ret
        exact ⟨ret_int HE.out.symm, _, grow_two _ _ _⟩
      · have HE : Hid (cmpI ⟨g, s⟩ ⟨g', s'⟩ = -1) := by
          show _ = _
          rw [hne.out]
          rw [Lib.toList_data, Lib.toList_data, hbl] at hl
          simp only [decide_eq_true_eq] at hl
          omega
        clear hbl hb0 hbd
        go_enter Try.func24, Try.ntmps24
        go_wp2
        go_ret
        exact ⟨ret_int HE.out.symm, _, grow_two _ _ _⟩
    · have hss : s = s' := by rw [names_same] at hn; exact of_decide_eq_true hn
      have hl : Op.bytesLess s.toList s'.toList = false := by
        rw [bl_cb, hss, cb_self]; rfl
      have HS := hidIt hss
      clear hss
      cases g'
      · have HE : Hid (cmpI ⟨g, s⟩ ⟨false, s'⟩ = 1) := by
          show _ = _
          cases g
          · exact absurd (by rw [HS.out]) H.out
          · simp only [cmpI, hn]; rfl
        go_enter Try.func24, Try.ntmps24
        go_wp2
        go_ret
        exact ⟨ret_int HE.out.symm, _, grow_two _ _ _⟩
      · have HE : Hid (cmpI ⟨g, s⟩ ⟨true, s'⟩ = -1) := by
          show _ = _
          cases g
          · simp only [cmpI, hn]; rfl
          · exact absurd (by rw [HS.out]) H.out
        go_enter Try.func24, Try.ntmps24
        go_wp2
        go_ret
        exact ⟨ret_int HE.out.symm, _, grow_two _ _ _⟩
end Go.Proofs.Ytbldlngblmegfaa
