/- The reference's Validate: ranks and premises. The reference's Validate: rules. The reference's Validate, for every rule base: what Validate says of it. -/
import Derived.Test.YtfcoplplkbeljaaGreatDoorZ1D
import Derived.Test.YtfcoplplkbeljaaGreatDoorZ1Q
import Derived.Test.YtfcoplplkbeljaaGreatDoorIn

namespace Go.Proofs.YtfcoplplkbeljaaGreatDoor
set_option linter.unusedVariables false
set_option linter.unusedSimpArgs false
open Go Go.RowKit

theorem r5rank_any (n : Int) (w : World) : Calls Tryz.prog 86 #[.int .i64 n] w fun e w' => e = .returned (.bool (decide (0 ≤ n ∧ n ≤ 9))) ∧ w = w' := by
  go_enter Tryz.func86, Tryz.ntmps86
  go_wp2
  all_goals (go_ret; refine ⟨ret_bool ?_, rfl⟩; grind)

theorem empty_of_size5 {s : ByteArray} (h : s.size = 0) : s = ⟨#[]⟩ := by apply ByteArray.ext; exact Array.eq_empty_of_size_eq_zero h
theorem notEmpty5 {s : ByteArray} (h0 : ¬ s.size = 0) : s.toList.isEmpty = false ∧ ¬ s.toList = [] := by
  have hne : s.toList.isEmpty = false := by
    rw [Lib.toList_data]
    cases h : s.data.toList with
    | nil => exact absurd (by show s.data.size = 0; rw [← Array.length_toList, h]; rfl) h0
    | cons a l => rfl
  exact ⟨hne, fun h => by rw [h] at hne; cases hne⟩
/-- What is wrong with a premise alone. -/
def premR (p : Pm) : Int := if ¬ (p.kind = 1 ∨ p.kind = 2 ∨ p.kind = 3) then 4 else if premB p = false then 1 else 0
theorem premE_R (b : Bs) (p : Pm) (i : Nat) : premE b p i = if premR p ≠ 0 then premR p else if posI (hasLit p.lit) b.prems < (i : Int) then 5 else 0 := by
  unfold premE premR
  by_cases h1 : p.kind = 1 ∨ p.kind = 2 ∨ p.kind = 3
  · rw [if_neg (not_not_intro h1), if_neg (not_not_intro h1)]
    by_cases h2 : premB p = false
    · rw [if_pos h2, if_pos h2]; simp
    · rw [if_neg h2, if_neg h2]; simp
  · rw [if_pos h1, if_pos h1]; simp

set_option maxRecDepth 100000 in
set_option maxHeartbeats 4000000 in
theorem r5prem_any (p : Pm) (hp : PmOk p) (w : World) :
    Calls Tryz.prog 82 #[.agg #[.bool p.lit.neg, .string p.lit.name, .int .i64 p.kind, .int .i64 p.rank, .string p.src]] w fun e w' => e = .returned (.int .i64 (premR p)) ∧ Below w.heap.size w w' := by
  obtain ⟨⟨g, s⟩, kd, rk, sr⟩ := p
  obtain ⟨o1, o2, o3, o4⟩ := hp
  simp only at o1 o2 o3 o4 ⊢
  unfold I64 at o3 o4
  have hgr := bgrow w (.cells #[.bool g, .string s, .int .i64 kd, .int .i64 rk, .string sr] 74)
  have HB0 := hidIt hgr
  have HP0 := hidIt (heap_alloc_new w (.cells #[.bool g, .string s, .int .i64 kd, .int .i64 rk, .string sr] 74))
  clear hgr
  by_cases hkd : kd = 1 ∨ kd = 2 ∨ kd = 3
  case neg =>
    have HE : Hid (premR ⟨⟨g, s⟩, kd, rk, sr⟩ = 4) := by show _ = _; unfold premR; rw [if_pos hkd]
    rw [HE.out]
    obtain ⟨x0, x1, x2, x3, x4⟩ := bcell5 HP0.out
    have lx := lt_of_block HP0.out
    by_cases h1 : kd < 1
    · clear hkd
      go_enter Tryz.func82, Tryz.ntmps82
      go_wp2_with fail
      go_ret
      exact ⟨rfl, HB0.out⟩
    · have h2 : 3 < kd := by omega
      clear hkd
      go_enter Tryz.func82, Tryz.ntmps82
      go_wp2_with fail
      go_ret
      exact ⟨rfl, HB0.out⟩
  case pos =>
  have hEq : premR ⟨⟨g, s⟩, kd, rk, sr⟩ = if (vn s && rankB rk (decide (kd = 2)) && srcB sr) = false then 1 else 0 := by unfold premR premB; rw [if_neg (not_not_intro hkd)]
  obtain ⟨V1, hV1⟩ : ∃ x, vn s = x := ⟨_, rfl⟩
  obtain ⟨V2, hV2⟩ : ∃ x, decide (0 ≤ rk ∧ rk ≤ 9) = x := ⟨_, rfl⟩
  obtain ⟨V3, hV3⟩ : ∃ x, vn sr = x := ⟨_, rfl⟩
  have C1 : Hid (∀ w, Calls Tryz.prog 87 #[.agg #[.bool g, .string s]] w fun e w' => e = .returned (.bool V1) ∧ Below w.heap.size w w') := fun w => by have := rValid_any g s w o1; rw [hV1] at this; exact this
  have C2 : Hid (∀ w, Calls Tryz.prog 86 #[.int .i64 rk] w fun e w' => e = .returned (.bool V2) ∧ w = w') := fun w => by have := r5rank_any rk w; rw [hV2] at this; exact this
  have C3 : Hid (∀ w, Calls Tryz.prog 130 #[.string sr] w fun e w' => e = .returned (.bool V3) ∧ w = w') := fun w => by have := rValidName_any sr w o2; rw [hV3] at this; exact this
  have HE : Hid (premR ⟨⟨g, s⟩, kd, rk, sr⟩ = if (V1 && (if kd = 2 then V2 else decide (rk = 0)) && (decide (sr.size = 0) || V3)) = false then 1 else 0) := by
    show _ = _
    rw [hEq, hV1]
    unfold rankB srcB
    rw [hV3]
    by_cases h2 : kd = 2
    · rw [if_pos h2]
      simp only [h2, decide_true, if_true, ← hV2, Bool.decide_and]
    · rw [if_neg h2]
      simp only [h2, decide_false, Bool.false_eq_true, if_false]
  have HV2 : Hid (V2 = decide (0 ≤ rk ∧ rk ≤ 9)) := hV2.symm
  have hsr : Hid (sr.size = 0 → sr = ⟨#[]⟩) := fun h => empty_of_size5 h
  generalize premR ⟨⟨g, s⟩, kd, rk, sr⟩ = E at *
  clear hEq hV1 hV2 hV3 o1 o2
  have h1I : ¬ kd < 1 := by omega
  have h3I : ¬ 3 < kd := by omega
  obtain ⟨x0, x1, x2, x3, x4⟩ := bcell5 HP0.out
  have lx := lt_of_block HP0.out
  go_enter Tryz.func82, Tryz.ntmps82
  go_wp2_with fail
  clear x0 x1 x2 x3 x4 lx
  generalize (w.alloc (.cells #[.bool g, .string s, .int .i64 kd, .int .i64 rk, .string sr] 74)) = w0 at *
  refine (C1.out _).mono ?_
  rintro e w1 ⟨rfl, hb1⟩
  have HB1 := hidIt (HB0.out.trans (hb1.mono HB0.out.size))
  have hP1 := blk_kept2 HP0.out hb1
  obtain ⟨x0, x1, x2, x3, x4⟩ := bcell5 hP1
  have lx := lt_of_block hP1
  clear hb1 hP1
  cases V1
  · go_wp2_with fail
    go_ret
    exact ⟨ret_int (by rw [HE.out]; simp), HB1.out⟩
  go_wp2_with fail
  refine (C2.out _).mono ?_
  rintro e w2 ⟨rfl, rfl⟩
  cases V2
  · have HR0 : Hid (rk ≠ 0) := fun h => by have := HV2.out; rw [h] at this; simp at this
    go_wp2_with fail
    go_ret
    exact ⟨ret_int (by rw [HE.out]; have := HR0.out; simp [this]), HB1.out⟩
  by_cases hk2 : kd = 2
  · subst hk2
    by_cases hz : sr.size = 0
    · obtain rfl := hsr.out hz
      go_wp2_with fail
      go_ret
      exact ⟨ret_int (by rw [HE.out]; rfl), HB1.out⟩
    · obtain ⟨ne1, ne2⟩ := notEmpty5 hz
      have HZ := hidIt hz
      clear hz
      go_wp2_with fail
      refine (C3.out _).mono ?_
      rintro e w3 ⟨rfl, rfl⟩
      cases V3
      all_goals (go_wp2_with fail; go_ret; exact ⟨ret_int (by rw [HE.out]; have := HZ.out; simp [this]), HB1.out⟩)
  · have hkq : (kd == 2) = false := beq_eq_false_iff_ne.2 hk2
    by_cases hr0 : rk = 0
    · subst hr0
      by_cases hz : sr.size = 0
      · obtain rfl := hsr.out hz
        have HK2 := hidIt hk2
        clear hk2
        go_wp2_with fail
        go_ret
        exact ⟨ret_int (by rw [HE.out, if_neg HK2.out]; rfl), HB1.out⟩
      · obtain ⟨ne1, ne2⟩ := notEmpty5 hz
        have HZ := hidIt hz
        have HK2 := hidIt hk2
        clear hz hk2
        go_wp2_with fail
        refine (C3.out _).mono ?_
        rintro e w3 ⟨rfl, rfl⟩
        cases V3
        all_goals (go_wp2_with fail; go_ret; exact ⟨ret_int (by rw [HE.out]; have := HZ.out; have := HK2.out; simp [*]), HB1.out⟩)
    · have hrq : (rk == 0) = false := beq_eq_false_iff_ne.2 hr0
      have HR0 := hidIt hr0
      have HK2 := hidIt hk2
      clear hr0 hk2
      go_wp2_with fail
      go_ret
      exact ⟨ret_int (by rw [HE.out]; have h1 := HR0.out; have h2 := HK2.out; simp [h1, h2]), HB1.out⟩
end Go.Proofs.YtfcoplplkbeljaaGreatDoor

namespace Go.Proofs.YtfcoplplkbeljaaGreatDoor
set_option linter.unusedVariables false
set_option linter.unusedSimpArgs false
open Go Go.RowKit Go.Sort

def ruleR (r : Ru) : Int := if 4 < r.body.length then 2 else if ruleB r = false then 1 else if decide (r.body = nrm r.body) = false then 8 else 0
theorem ruleE_R (b : Bs) (r : Ru) (i : Nat) : ruleE b r i = if ruleR r ≠ 0 then ruleR r else if posI (hasName r.name) b.rules < (i : Int) then 5 else 0 := by
  unfold ruleE ruleR
  by_cases h1 : 4 < r.body.length
  · rw [if_pos h1, if_pos h1]; simp
  · rw [if_neg h1, if_neg h1]
    by_cases h2 : ruleB r = false
    · rw [if_pos h2, if_pos h2]; simp
    · rw [if_neg h2, if_neg h2]
      by_cases h3 : decide (r.body = nrm r.body) = false
      · rw [if_pos h3, if_pos h3]; simp
      · rw [if_neg h3, if_neg h3]; simp
def okL (x : Lt) : Bool := vn x.name
theorem any_bad (xs : List Lt) : xs.any badL = !xs.all okL := by
  induction xs with
  | nil => rfl
  | cons x xs ih =>
    rw [List.any_cons, List.all_cons, ih]
    unfold badL okL
    cases vn x.name <;> simp
theorem all_succ {xs : List Lt} {k : Nat} (h : k < xs.length) : (xs.take (k + 1)).all okL = ((xs.take k).all okL && okL xs[k]) := by
  rw [List.take_succ_eq_append_getElem h, List.all_append]
  simp
theorem lt_cmp {a b : Lt} : ltOf cmpI a b = true ↔ cmpI a b < 0 := by simp [ltOf]
theorem up_adj {xs : List Lt} (h : ∀ j (hj : j + 1 < xs.length), ltOf cmpI (xs[j]'(by omega)) xs[j + 1] = true) : xs.Pairwise fun a b => ltOf cmpI a b = true := by
  rw [List.pairwise_iff_getElem]
  have key : ∀ d i (hj : i + d + 1 < xs.length), ltOf cmpI (xs[i]'(by omega)) xs[i + d + 1] = true := by
    intro d
    induction d with
    | zero => intro i hj; exact h i hj
    | succ d ih =>
      intro i hj
      exact swo.trans _ _ _ (ih i (by omega)) (h (i + d + 1) hj)
  intro i j hi hj hij
  have := key (j - i - 1) i (by omega)
  have e : i + (j - i - 1) + 1 = j := by omega
  simp only [e] at this
  exact this

set_option maxRecDepth 100000 in
set_option maxHeartbeats 8000000 in
theorem r5rule_any (r : Ru) (bv : Value) (hr : RuOk r) (w : World) (hb : BodyAt w bv r.body) :
    Calls Tryz.prog 84 #[.agg #[.string r.name, .bool r.strict, .int .i64 r.rank, bv, .bool r.head.neg, .string r.head.name]] w fun e w' => e = .returned (.int .i64 (ruleR r)) ∧ Below w.heap.size w w' := by
  obtain ⟨nm, st, rk, xs, ⟨hg, hn⟩⟩ := r
  obtain ⟨o1, o2, o3, o4⟩ := hr
  simp only at o1 o2 o3 o4 hb ⊢
  unfold I64 at o2
  obtain ⟨av, cv, rfl, -, hcv, -⟩ := hb.form
  have hgr := bgrow w (.cells #[.string nm, .bool st, .int .i64 rk, .slice av xs.length cv, .bool hg, .string hn] 64)
  have HB0 := hidIt hgr
  have HD0 := hidIt (hb.below hgr)
  have HP0 := hidIt (heap_alloc_new w (.cells #[.string nm, .bool st, .int .i64 rk, .slice av xs.length cv, .bool hg, .string hn] 64))
  clear hgr hb
  have hxl : xs.length ≤ 9223372036854775807 := by
    obtain ⟨a', c', e, h1, h2, -⟩ := HD0.out.form
    unfold maxLen at h2
    omega
  by_cases hbig : 4 < xs.length
  · have HE : Hid (ruleR ⟨nm, st, rk, xs, ⟨hg, hn⟩⟩ = 2) := by show _ = _; unfold ruleR; rw [if_pos hbig]
    rw [HE.out]
    have hbI : (4 : Int) < (xs.length : Int) := by omega
    obtain ⟨x0, x1, x2, x3, x4, x5⟩ := bcell6 HP0.out
    have lx := lt_of_block HP0.out
    clear hbig
    go_enter Tryz.func84, Tryz.ntmps84
    go_wp2_with fail
    go_ret
    exact ⟨rfl, HB0.out⟩
  have hbI : ¬ (4 : Int) < (xs.length : Int) := by omega
  obtain ⟨V1, hV1⟩ : ∃ x, vn nm = x := ⟨_, rfl⟩
  obtain ⟨V2, hV2⟩ : ∃ x, decide (0 ≤ rk ∧ rk ≤ 9) = x := ⟨_, rfl⟩
  obtain ⟨V4, hV4⟩ : ∃ x, vn hn = x := ⟨_, rfl⟩
  have C1 : Hid (∀ w, Calls Tryz.prog 130 #[.string nm] w fun e w' => e = .returned (.bool V1) ∧ w = w') := fun w => by have := rValidName_any nm w o1; rw [hV1] at this; exact this
  have C2 : Hid (∀ w, Calls Tryz.prog 86 #[.int .i64 rk] w fun e w' => e = .returned (.bool V2) ∧ w = w') := fun w => by have := r5rank_any rk w; rw [hV2] at this; exact this
  have C4 : Hid (∀ w, Calls Tryz.prog 87 #[.agg #[.bool hg, .string hn]] w fun e w' => e = .returned (.bool V4) ∧ Below w.heap.size w w') := fun w => by have := rValid_any hg hn w o3; rw [hV4] at this; exact this
  obtain ⟨O0, hO0⟩ : ∃ x, (V1 && (V2 && ((!st || decide (rk = 0)) && V4))) = x := ⟨_, rfl⟩
  have HRB : Hid (ruleB ⟨nm, st, rk, xs, ⟨hg, hn⟩⟩ = (O0 && xs.all okL)) := by
    show _ = _
    unfold ruleB rankB
    simp only
    rw [any_bad, hV1, hV4, ← hO0, ← hV2]
    cases st
    · simp only [Bool.not_false, if_true, Bool.true_or, Bool.true_and, Bool.not_not, Bool.decide_and, Bool.and_assoc]
    · simp only [Bool.not_true, Bool.false_eq_true, if_false, Bool.false_or, Bool.not_not, Bool.decide_and]
      by_cases h0 : rk = 0
      · subst h0; simp [Bool.and_assoc]
      · simp [h0]
  have HO : Hid (O0 = (V1 && (V2 && ((!st || decide (rk = 0)) && V4)))) := hO0.symm
  have HE : Hid (ruleR ⟨nm, st, rk, xs, ⟨hg, hn⟩⟩ = if (O0 && xs.all okL) = false then 1 else if decide (xs = nrm xs) = false then 8 else 0) := by
    show _ = _
    unfold ruleR
    rw [if_neg hbig, HRB.out]
  have H4 := hidIt o4
  generalize ruleR ⟨nm, st, rk, xs, ⟨hg, hn⟩⟩ = E at *
  clear HRB hO0 hV1 hV2 hV4 o1 o3 o4 hbig
  obtain ⟨x0, x1, x2, x3, x4, x5⟩ := bcell6 HP0.out
  have lx := lt_of_block HP0.out
  go_enter Tryz.func84, Tryz.ntmps84
  go_upto_region 3 with (fail)
  clear x0 x1 x2 x3 x4 x5 lx
  generalize hW0 : (w.alloc (.cells #[.string nm, .bool st, .int .i64 rk, .slice av xs.length cv, .bool hg, .string hn] 64)) = w0 at *
  clear hW0
  go_cut [3] from 10 to 32 (fun o wx => o = .bool O0 ∧ Below w0.heap.size w0 wx)
  case first =>
    obtain ⟨x0, x1, x2, x3, x4, x5⟩ := bcell6 HP0.out
    have lx := lt_of_block HP0.out
    go_wp2_with fail
    refine (C1.out _).mono ?_
    rintro e w1 ⟨rfl, rfl⟩
    cases V1
    · go_wp2_with fail
      go_meet
      exact ⟨by rw [HO.out]; rfl, Below.refl _ _⟩
    go_wp2_with fail
    refine (C2.out _).mono ?_
    rintro e w2 ⟨rfl, rfl⟩
    cases V2
    · go_wp2_with fail
      go_meet
      exact ⟨by rw [HO.out]; rfl, Below.refl _ _⟩
    cases st
    · go_wp2_with fail
      refine (C4.out _).mono ?_
      rintro e w3 ⟨rfl, hb3⟩
      have HB3 := hidIt hb3
      clear hb3
      cases V4
      all_goals (go_wp2_with fail; go_meet; exact ⟨by rw [HO.out]; rfl, HB3.out⟩)
    · by_cases h0 : rk = 0
      · subst h0
        go_wp2_with fail
        refine (C4.out _).mono ?_
        rintro e w3 ⟨rfl, hb3⟩
        have HB3 := hidIt hb3
        clear hb3
        cases V4
        all_goals (go_wp2_with fail; go_meet; exact ⟨by rw [HO.out]; rfl, HB3.out⟩)
      · have hrq : (rk == 0) = false := beq_eq_false_iff_ne.2 h0
        have HR0 := hidIt h0
        clear h0
        go_wp2_with fail
        go_meet
        exact ⟨by rw [HO.out, decide_eq_false HR0.out]; rfl, Below.refl _ _⟩
  case rest =>
    obtain ⟨rfl, hbx⟩ := hcut
    have HBX := hidIt hbx
    clear hbx HO C1 C2 C4
    go_wp2_with fail
    go_loopw [3, 4] (fun o i wr => ∃ (k : Nat) (ob : Bool), k ≤ xs.length ∧ o = .bool ob ∧ i = .int .i64 k ∧ Hid (Below w0.heap.size w0 wr) ∧ Hid (ob = (O0 && (xs.take k).all okL))) (fun _ i _ => xs.length - (intOf i).toNat)
    case atStart => exact ⟨0, O0, Nat.zero_le _, rfl, rfl, HBX.out, (show O0 = (O0 && ([] : List Lt).all okL) from by simp)⟩
    case round =>
      clear HBX
      obtain ⟨k, ob, hk, rfl, rfl, HBr, HOB⟩ := hrel
      have hP := blk_kept2 HP0.out HBr.out
      obtain ⟨x0, x1, x2, x3, x4, x5⟩ := bcell6 hP
      have lx := lt_of_block hP
      clear hP
      by_cases hlt : k < xs.length
      · have hltI : (k : Int) < (xs.length : Int) := by omega
        have hk0 : (0 : Int) ≤ (k : Int) := by omega
        obtain ⟨a', c', e', -, -, hrow⟩ := (HD0.out.below HBr.out).form
        injection e' with e' e2 e3
        subst e' e3
        obtain ⟨bb, off, rfl, hbl, d0, d1⟩ := hrow k hlt
        have hstep := all_succ hlt
        cases ob
        · have HN : Hid (false = (O0 && (xs.take (k + 1)).all okL)) := by
            show _ = _
            rw [hstep, ← Bool.and_assoc, ← HOB.out]; rfl
          clear hstep
          go_wp2_with fail
          go_roundw
          case rel => exact ⟨k + 1, false, by omega, rfl, by go_num, HBr.out, HN.out⟩
          case measure => simp [intOf]; omega
        · have HN : Hid (vn xs[k].name = (O0 && (xs.take (k + 1)).all okL)) := by
            show _ = _
            rw [hstep, ← Bool.and_assoc, ← HOB.out]; rfl
          have hnm := H4.out _ (List.getElem_mem hlt)
          clear hstep
          go_wp2_with fail
          refine (rValid_any xs[k].neg xs[k].name _ hnm).mono ?_
          rintro e w3 ⟨rfl, hb3⟩
          have HB3 := hidIt (HBr.out.trans (Below.mono hb3 HBr.out.size))
          clear hb3
          go_wp2_with fail
          go_roundw
          case rel => exact ⟨k + 1, _, by omega, rfl, by go_num, HB3.out, HN.out⟩
          case measure => simp [intOf]; omega
      · obtain rfl : k = xs.length := by omega
        have HOE : Hid (ob = (O0 && xs.all okL)) := by
          show _ = _
          rw [HOB.out, List.take_length]
        have HBw := hidIt (HB0.out.trans (HBr.out.mono HB0.out.size))
        cases ob
        · have HE1 : Hid (E = 1) := by show _ = _; rw [HE.out, ← HOE.out]; rfl
          go_wp2_with fail
          go_ret
          exact ⟨ret_int HE1.out.symm, HBw.out⟩
        · have HE8 : Hid (E = if decide (xs = nrm xs) = false then 8 else 0) := by show _ = _; rw [HE.out, ← HOE.out]; rfl
          clear HE HOE HOB hlt
          go_wp2_with fail
          clear x0 x1 x2 x3 x4 x5 lx
          go_loopw [5] (fun i wx => ∃ j : Nat, j ≤ xs.length ∧ i = .int .i64 ((j : Int) + 1) ∧ Hid (Below w0.heap.size w0 wx) ∧ Hid (∀ t (h : t + 1 < xs.length), t < j → ltOf cmpI (xs[t]'(by omega)) xs[t + 1] = true)) (fun i _ => xs.length - ((intOf i).toNat - 1))
          case atStart => exact ⟨0, Nat.zero_le _, rfl, HBr.out, fun t _ h => absurd h (by omega)⟩
          case round =>
            clear HBr HBw
            obtain ⟨j, hj, rfl, HBr, HUP⟩ := hrel
            have HBw := hidIt (HB0.out.trans (HBr.out.mono HB0.out.size))
            have hP := blk_kept2 HP0.out HBr.out
            obtain ⟨x0, x1, x2, x3, x4, x5⟩ := bcell6 hP
            have lx := lt_of_block hP
            clear hP
            by_cases hlt : j + 1 < xs.length
            · have hltI : (j : Int) + 1 < (xs.length : Int) := by omega
              have hltJ : (j : Int) < (xs.length : Int) := by omega
              have hk0 : (0 : Int) ≤ (j : Int) := by omega
              have hk1 : (0 : Int) ≤ (j : Int) + 1 := by omega
              have hwr : IntKind.i64.wrap ((j : Int) + 1 - 1) = (j : Int) := by rw [IntKind.wrap_i64]; omega
              have hj1 : ((j : Int) + 1).toNat = j + 1 := by omega
              obtain ⟨a', c', e', -, -, hrow⟩ := (HD0.out.below HBr.out).form
              injection e' with e' e2 e3
              subst e' e3
              obtain ⟨bb, off, rfl, hbl, d0, d1⟩ := hrow j (by omega)
              obtain ⟨bb', off', ee, -, d2, d3⟩ := hrow (j + 1) hlt
              injection ee with ee
              injection ee with ee1 ee2 ee3
              subst ee1 ee2
              have HCM : Hid (∀ wx : World, Calls Tryz.prog 116 #[.agg #[.bool (xs[j]'(by omega)).neg, .string (xs[j]'(by omega)).name], .agg #[.bool xs[j + 1].neg, .string xs[j + 1].name]] wx fun e w' => e = .returned (.int .i64 (cmpI (xs[j]'(by omega)) xs[j + 1])) ∧ Below wx.heap.size wx w') := fun wx => (rCompare_any _ _ wx).mono fun e w' ⟨he, os, hw⟩ => ⟨he, by rw [hw]; exact below_grow wx os⟩
              have HST : Hid (cmpI (xs[j]'(by omega)) xs[j + 1] < 0 → ∀ t (h : t + 1 < xs.length), t < j + 1 → ltOf cmpI (xs[t]'(by omega)) xs[t + 1] = true) := fun h t ht htj => by
                by_cases e : t < j
                · exact HUP.out t ht e
                · obtain rfl : t = j := by omega
                  exact lt_cmp.2 h
              have HBAD : Hid (¬ cmpI (xs[j]'(by omega)) xs[j + 1] < 0 → E = 8) := fun h => by
                rw [HE8.out, if_pos]
                rw [decide_eq_false_iff_not, nrm_self]
                intro hp
                exact h (lt_cmp.1 (List.pairwise_iff_getElem.1 hp j (j + 1) (by omega) hlt (by omega)))
              clear hrow HUP
              generalize cmpI (xs[j]'(by omega)) xs[j + 1] = c at *
              have X3 := fun y => Ext.cell x3 y
              have D0 := fun y => Ext.cell d0 y
              have D1 := fun y => Ext.cell d1 y
              have D2 := fun y => Ext.cell d2 y
              have D3 := fun y => Ext.cell d3 y
              have HLX := fun y : In (Ext wr) => Nat.lt_of_lt_of_le lx (Below.size y.h)
              have HLB := fun y : In (Ext wr) => Nat.lt_of_lt_of_le hbl (Below.size y.h)
              go_wp2_with fail
              haveI := Ext.nonempty wr
              refine wp_region_in (Ext wr) (by kernel_rfl) (by kernel_rfl) (Ext.start wr) ?_
              repeat (go_big_quiet_step ((go_at_call 116; refine Ext.call (HCM.out _))))
              refine wpQuiet_nil ?_
              rintro w5 ⟨⟨_, h5⟩, rfl⟩
              have HB5 : Hid (Below w0.heap.size w0 _) := hidIt (HBr.out.trans (Below.mono h5 HBr.out.size))
              have HB6 : Hid (Below w.heap.size w _) := hidIt (HB0.out.trans (HB5.out.mono HB0.out.size))
              clear h5 X3 D0 D1 D2 D3 HLX HLB x0 x1 x2 x3 x4 x5 lx hbl d0 d1 d2 d3
              by_cases hc : c < 0
              · have hcI : ¬ (0 : Int) ≤ c := by omega
                have HS2 := hidIt (HST.out hc)
                clear hc
                go_wp2_with fail
                go_roundw
                case rel => exact ⟨j + 1, by omega, by go_num, HB5.out, HS2.out⟩
                case measure => simp [intOf]; omega
              · have hcI : (0 : Int) ≤ c := by omega
                have HE9 := hidIt (HBAD.out hcI)
                clear hc
                go_wp2_with fail
                go_ret
                exact ⟨ret_int HE9.out.symm, HB6.out⟩
            · have hltI : ¬ (j : Int) + 1 < (xs.length : Int) := by omega
              have HE0 : Hid (E = 0) := by
                show _ = _
                rw [HE8.out, if_neg]
                rw [decide_eq_false_iff_not, Classical.not_not, nrm_self]
                exact up_adj fun t h => HUP.out t h (by omega)
              go_wp2_with fail
              go_ret
              exact ⟨ret_int HE0.out.symm, HBw.out⟩
end Go.Proofs.YtfcoplplkbeljaaGreatDoor

namespace Go.Proofs.YtfcoplplkbeljaaGreatDoor
set_option linter.unusedVariables false
set_option linter.unusedSimpArgs false
open Go Go.RowKit

set_option maxRecDepth 100000 in
set_option maxHeartbeats 8000000 in
theorem r5validate_any (b : Bs) (hb : BsOk b) (v : Value) (w : World) (hv : BaseAt w v b) :
    Calls Tryz.prog 44 #[v] w fun e w' => e = .returned (.int .i64 (baseE b)) ∧ Below w.heap.size w w' := by
  have HVW := hidIt hv
  obtain ⟨a1, a2, a3, c1, c2, c3, rfl, m1, n1, m2, n2, m3, n3, -, -, hq⟩ := hv.form
  have hl1 : b.prems.length ≤ 9223372036854775807 := by unfold maxLen at n1; omega
  have hl2 : b.rules.length ≤ 9223372036854775807 := by unfold maxLen at n2; omega
  have hl3 : b.proms.length ≤ 9223372036854775807 := by unfold maxLen at n3; omega
  have hgr := bgrow w (.cells #[.slice a1 b.prems.length c1, .slice a2 b.rules.length c2, .slice a3 b.proms.length c3] 32)
  have HB0 := hidIt hgr
  have HV0 := hidIt (HVW.out.below hgr)
  have HQ0 := hidIt (hq.below hgr)
  have HK0 := hidIt (heap_alloc_new w (.cells #[.slice a1 b.prems.length c1, .slice a2 b.rules.length c2, .slice a3 b.proms.length c3] 32))
  have HE : Hid (baseE b = if 16 < b.prems.length ∨ 24 < b.rules.length ∨ 8 < b.proms.length then 2
    else if errUp (premF b) b.prems.length ≠ 0 then errUp (premF b) b.prems.length
    else if errUp (ruleF b) b.rules.length ≠ 0 then errUp (ruleF b) b.rules.length
    else errUp (promF b) b.proms.length) := by show _ = _; rfl
  generalize baseE b = E at *
  clear hv hgr HVW m1 m2 m3 n1 n2 hq
  by_cases hbig : 16 < b.prems.length ∨ 24 < b.rules.length ∨ 8 < b.proms.length
  case pos =>
    have HE2 : Hid (E = 2) := by show _ = _; rw [HE.out, if_pos hbig]
    clear HE
    by_cases h1 : 16 < b.prems.length
    · have h1I : (16 : Int) < (b.prems.length : Int) := by omega
      clear hbig h1
      go_enter Tryz.func44, Tryz.ntmps44
      go_wp2_with fail
      go_ret
      exact ⟨ret_int HE2.out.symm, HB0.out⟩
    by_cases h2 : 24 < b.rules.length
    · have h1I : ¬ (16 : Int) < (b.prems.length : Int) := by omega
      have h2I : (24 : Int) < (b.rules.length : Int) := by omega
      clear hbig h1 h2
      go_enter Tryz.func44, Tryz.ntmps44
      go_wp2_with fail
      go_ret
      exact ⟨ret_int HE2.out.symm, HB0.out⟩
    · have h1I : ¬ (16 : Int) < (b.prems.length : Int) := by omega
      have h2I : ¬ (24 : Int) < (b.rules.length : Int) := by omega
      have h3I : (8 : Int) < (b.proms.length : Int) := by omega
      clear hbig h1 h2
      go_enter Tryz.func44, Tryz.ntmps44
      go_wp2_with fail
      go_ret
      exact ⟨ret_int HE2.out.symm, HB0.out⟩
  case neg =>
  have h1I : ¬ (16 : Int) < (b.prems.length : Int) := by omega
  have h2I : ¬ (24 : Int) < (b.rules.length : Int) := by omega
  have h3I : ¬ (8 : Int) < (b.proms.length : Int) := by omega
  have HE2 : Hid (E = if errUp (premF b) b.prems.length ≠ 0 then errUp (premF b) b.prems.length
    else if errUp (ruleF b) b.rules.length ≠ 0 then errUp (ruleF b) b.rules.length
    else errUp (promF b) b.proms.length) := by show _ = _; rw [HE.out, if_neg hbig]
  clear HE hbig
  have HEa : Hid (∀ k, k < b.prems.length → errUp (premF b) k = 0 → premF b k ≠ 0 → E = premF b k) := fun k hk h0 hf => by
    have := errUp_stop h0 hf _ hk
    rw [HE2.out, if_pos (by rw [this]; exact hf), this]
  have HEb : Hid (errUp (premF b) b.prems.length = 0 → ∀ k, k < b.rules.length → errUp (ruleF b) k = 0 → ruleF b k ≠ 0 → E = ruleF b k) := fun hz k hk h0 hf => by
    have := errUp_stop h0 hf _ hk
    rw [HE2.out, if_neg (fun h => h hz), if_pos (by rw [this]; exact hf), this]
  have HEc : Hid (errUp (premF b) b.prems.length = 0 → errUp (ruleF b) b.rules.length = 0 → E = errUp (promF b) b.proms.length) := fun hz hy => by
    rw [HE2.out, if_neg (fun h => h hz), if_neg (fun h => h hy)]
  clear HE2
  have HP1 : Hid (∀ k (hk : k < b.prems.length), premF b k = premE b b.prems[k] k) := fun k hk => dif_pos hk
  have HP2 : Hid (∀ k (hk : k < b.rules.length), ruleF b k = ruleE b b.rules[k] k) := fun k hk => dif_pos hk
  have HP3 : Hid (∀ k (hk : k < b.proms.length), promF b k = promE b b.proms[k]) := fun k hk => dif_pos hk
  generalize premF b = f1 at *
  generalize ruleF b = f2 at *
  generalize promF b = f3 at *
  go_enter Tryz.func44, Tryz.ntmps44
  go_wp2_with fail
  generalize (w.alloc (.cells #[.slice a1 b.prems.length c1, .slice a2 b.rules.length c2, .slice a3 b.proms.length c3] 32)) = w0 at *
  have HP4 : Hid (∀ k (hk : k < b.prems.length), f1 k = if premR b.prems[k] ≠ 0 then premR b.prems[k] else if posI (hasLit b.prems[k].lit) b.prems < (k : Int) then 5 else 0) := fun k hk => (HP1.out k hk).trans (premE_R b b.prems[k] k)
  have HP5 : Hid (∀ k (hk : k < b.rules.length), f2 k = if ruleR b.rules[k] ≠ 0 then ruleR b.rules[k] else if posI (hasName b.rules[k].name) b.rules < (k : Int) then 5 else 0) := fun k hk => (HP2.out k hk).trans (ruleE_R b b.rules[k] k)
  have HOK := hidIt hb
  clear hb HP1 HP2
  go_loopw [3, 4] (fun i _ wr => ∃ k : Nat, k ≤ b.prems.length ∧ i = .int .i64 k ∧ Hid (Below w0.heap.size w0 wr) ∧ Hid (errUp f1 k = 0)) (fun i _ _ => b.prems.length - (intOf i).toNat)
  case atStart => exact ⟨0, Nat.zero_le _, rfl, Below.refl _ _, rfl⟩
  case round =>
    obtain ⟨k, hk, rfl, HBr, HF⟩ := hrel
    have HKr := hidIt (blk_kept2 HK0.out HBr.out)
    obtain ⟨k0, k1, k2⟩ := bcell3 HKr.out
    have lk := lt_of_block HKr.out
    by_cases hlt : k < b.prems.length
    · have hkr := hlt
      have hltI : (k : Int) < (b.prems.length : Int) := by omega
      have hk0 : (0 : Int) ≤ (k : Int) := by omega
      have HEE := hidIt (HEa.out k hkr HF.out)
      have HFK := hidIt (HP4.out k hkr)
      have hpo := HOK.out.1 _ (List.getElem_mem hkr)
      have HVr := hidIt (HV0.out.below HBr.out)
      obtain ⟨pv, rv, qv, ev, hpp, -, -⟩ := HVr.out
      injection ev with ev
      obtain ⟨rfl, rfl, rfl⟩ : pv = .slice a1 b.prems.length c1 ∧ rv = .slice a2 b.rules.length c2 ∧ qv = .slice a3 b.proms.length c3 := by simpa [eq_comm] using ev
      obtain ⟨aa, ca, ea, -, -, hrow⟩ := RowIn.form hpp
      injection ea with ea eb ec
      subst ea ec
      obtain ⟨bb, off, rfl, hbl, x0, x1, x2, x3, x4⟩ := hrow k hkr
      have HPR : Hid (∀ wx : World, Calls Tryz.prog 82 #[.agg #[.bool b.prems[k].lit.neg, .string b.prems[k].lit.name, .int .i64 b.prems[k].kind, .int .i64 b.prems[k].rank, .string b.prems[k].src]] wx fun e w' => e = .returned (.int .i64 (premR b.prems[k])) ∧ Below wx.heap.size wx w') := fun wx => r5prem_any b.prems[k] hpo wx
      have HNX := hidIt (fun h => errUp_next (k := k) HF.out h)
      clear hrow hpp hpo ev
      go_wp2_with fail
      refine (HPR.out _).mono ?_
      rintro e w1 ⟨rfl, hb1⟩
      have HB1 := hidIt (HBr.out.trans (Below.mono hb1 HBr.out.size))
      have HBW := hidIt (HB0.out.trans (Below.mono HB1.out HB0.out.size))
      have HV1 := hidIt (HVr.out.below hb1)
      have y0 := (hb1.cell (p := ⟨bb, off + k * 5, none⟩) hbl).trans x0
      have y1 := (hb1.cell (p := ⟨bb, off + k * 5 + 1, none⟩) hbl).trans x1
      have hbl1 := Nat.lt_of_lt_of_le hbl hb1.size
      have HK1 := hidIt (blk_kept2 HKr.out hb1)
      clear hb1 k0 k1 k2 lk HKr x0 x1 x2 x3 x4 hbl
      obtain ⟨m0, m1, m2⟩ := bcell3 HK1.out
      have lm := lt_of_block HK1.out
      generalize premR b.prems[k] = z at *
      by_cases hz : z = 0
      · subst hz
        have HFK2 : Hid (f1 k = if posI (hasLit b.prems[k].lit) b.prems < (k : Int) then 5 else 0) := by show _ = _; rw [HFK.out, if_neg (by simp)]
        have HPX : Hid (∀ wx : World, Ext w1 wx → Calls Tryz.prog 83 #[.agg #[.slice (some ⟨bb, off, none⟩) b.prems.length c1, .slice a2 b.rules.length c2, .slice a3 b.proms.length c3], .agg #[.bool b.prems[k].lit.neg, .string b.prems[k].lit.name]] wx fun e w' => e = .returned (.int .i64 (posI (hasLit b.prems[k].lit) b.prems)) ∧ Below wx.heap.size wx w') := fun wx hx => r5premise_any b _ b.prems[k].lit wx (HV1.out.below hx)
        obtain ⟨q, hqq⟩ : ∃ q, posI (hasLit b.prems[k].lit) b.prems = q := ⟨_, rfl⟩
        rw [hqq] at HFK2 HPX
        have M0 := fun y => Ext.cell m0 y
        have M1 := fun y => Ext.cell m1 y
        have M2 := fun y => Ext.cell m2 y
        have Y0 := fun y => Ext.cell y0 y
        have Y1 := fun y => Ext.cell y1 y
        have LM := fun y : In (Ext w1) => Nat.lt_of_lt_of_le lm (Below.size y.h)
        have LB := fun y : In (Ext w1) => Nat.lt_of_lt_of_le hbl1 (Below.size y.h)
        clear hqq HFK
        go_wp2_with fail
        haveI := Ext.nonempty w1
        refine wp_region_in (Ext w1) (by kernel_rfl) (by kernel_rfl) (Ext.start w1) ?_
        repeat (go_big_quiet_step ((go_at_call 83; refine Ext.call (HPX.out _ (In.h _)))))
        refine wpQuiet_nil ?_
        rintro w5 ⟨⟨_, h5⟩, rfl⟩
        have HB5 : Hid (Below w0.heap.size w0 _) := hidIt (HB1.out.trans (Below.mono h5 HB1.out.size))
        have HB6 : Hid (Below w.heap.size w _) := hidIt (HB0.out.trans (HB5.out.mono HB0.out.size))
        clear h5 M0 M1 M2 Y0 Y1 LM LB m0 m1 m2 lm y0 y1 hbl1
        by_cases hlt2 : q < (k : Int)
        · have hz5 : f1 k = 5 := by rw [HFK2.out, if_pos hlt2]
          have HE5 : Hid (E = 5) := by show _ = _; rw [HEE.out (by rw [hz5]; decide), hz5]
          clear hz5
          go_wp2_with fail
          go_ret
          exact ⟨ret_int HE5.out.symm, HB6.out⟩
        · have hz0 : f1 k = 0 := by rw [HFK2.out, if_neg hlt2]
          have HN := hidIt (HNX.out hz0)
          clear hz0
          go_wp2_with fail
          go_roundw
          case rel => exact ⟨k + 1, by omega, by go_num, HB5.out, HN.out⟩
          case measure => simp [intOf]; omega
      · have hzb : (z == 0) = false := beq_eq_false_iff_ne.2 hz
        have HE5 : Hid (E = z) := by
          show _ = _
          have : f1 k = z := by rw [HFK.out, if_pos hz]
          rw [HEE.out (by rw [this]; exact hz), this]
        go_wp2_with fail
        go_ret
        exact ⟨ret_int HE5.out.symm, HBW.out⟩
    · obtain rfl : k = b.prems.length := by omega
      have HEb2 := hidIt (HEb.out HF.out)
      have HEc2 := hidIt (HEc.out HF.out)
      clear HEa HEb HEc HF HP4 hlt
      go_wp2_with fail
      clear k0 k1 k2 lk HKr
      go_loopw [5, 6] (fun i _ wx => ∃ k : Nat, k ≤ b.rules.length ∧ i = .int .i64 k ∧ Hid (Below w0.heap.size w0 wx) ∧ Hid (errUp f2 k = 0)) (fun i _ _ => b.rules.length - (intOf i).toNat)
      case atStart => exact ⟨0, Nat.zero_le _, rfl, HBr.out, rfl⟩
      case round =>
        clear HBr
        obtain ⟨k, hk, rfl, HBr, HF⟩ := hrel
        have HKr := hidIt (blk_kept2 HK0.out HBr.out)
        obtain ⟨k0, k1, k2⟩ := bcell3 HKr.out
        have lk := lt_of_block HKr.out
        by_cases hlt : k < b.rules.length
        · have hkr := hlt
          have hltI : (k : Int) < (b.rules.length : Int) := by omega
          have hk0 : (0 : Int) ≤ (k : Int) := by omega
          have HEE := hidIt (HEb2.out k hkr HF.out)
          have HFK := hidIt (HP5.out k hkr)
          have hpo := HOK.out.2.1 _ (List.getElem_mem hkr)
          have HVr := hidIt (HV0.out.below HBr.out)
          obtain ⟨pv, rv, qv, ev, -, hpp, -⟩ := HVr.out
          injection ev with ev
          obtain ⟨rfl, rfl, rfl⟩ : pv = .slice a1 b.prems.length c1 ∧ rv = .slice a2 b.rules.length c2 ∧ qv = .slice a3 b.proms.length c3 := by simpa [eq_comm] using ev
          obtain ⟨aa, ca, ea, -, -, hrow⟩ := RowIn.form hpp
          injection ea with ea eb ec
          subst ea ec
          obtain ⟨bb, off, rfl, hbl, bv, x0, x1, x2, x3, x4, x5, hbd⟩ := hrow k hkr
          obtain ⟨av, cv, rfl, -, -, -⟩ := hbd.form
          have HBD := hidIt hbd
          have HPR : Hid (∀ wx : World, BodyAt wx (.slice av b.rules[k].body.length cv) b.rules[k].body → Calls Tryz.prog 84 #[.agg #[.string b.rules[k].name, .bool b.rules[k].strict, .int .i64 b.rules[k].rank, .slice av b.rules[k].body.length cv, .bool b.rules[k].head.neg, .string b.rules[k].head.name]] wx fun e w' => e = .returned (.int .i64 (ruleR b.rules[k])) ∧ Below wx.heap.size wx w') := fun wx hx => r5rule_any b.rules[k] _ hpo wx hx
          have HNX := hidIt (fun h => errUp_next (k := k) HF.out h)
          clear hrow hpp hpo ev hbd
          go_wp2_with fail
          refine (HPR.out _ HBD.out).mono ?_
          rintro e w1 ⟨rfl, hb1⟩
          have HB1 := hidIt (HBr.out.trans (Below.mono hb1 HBr.out.size))
          have HBW := hidIt (HB0.out.trans (Below.mono HB1.out HB0.out.size))
          have HV1 := hidIt (HVr.out.below hb1)
          have y0 := (hb1.cell (p := ⟨bb, off + k * 6, none⟩) hbl).trans x0
          have hbl1 := Nat.lt_of_lt_of_le hbl hb1.size
          have HK1 := hidIt (blk_kept2 HKr.out hb1)
          clear hb1 k0 k1 k2 lk HKr x0 x1 x2 x3 x4 x5 hbl
          obtain ⟨m0, m1, m2⟩ := bcell3 HK1.out
          have lm := lt_of_block HK1.out
          generalize ruleR b.rules[k] = z at *
          by_cases hz : z = 0
          · subst hz
            have HFK2 : Hid (f2 k = if posI (hasName b.rules[k].name) b.rules < (k : Int) then 5 else 0) := by show _ = _; rw [HFK.out, if_neg (by simp)]
            have HPX : Hid (∀ wx : World, Ext w1 wx → Calls Tryz.prog 85 #[.agg #[.slice a1 b.prems.length c1, .slice (some ⟨bb, off, none⟩) b.rules.length c2, .slice a3 b.proms.length c3], .string b.rules[k].name] wx fun e w' => e = .returned (.int .i64 (posI (hasName b.rules[k].name) b.rules)) ∧ Below wx.heap.size wx w') := fun wx hx => r5find_any b _ b.rules[k].name wx (HV1.out.below hx)
            obtain ⟨q, hqq⟩ : ∃ q, posI (hasName b.rules[k].name) b.rules = q := ⟨_, rfl⟩
            rw [hqq] at HFK2 HPX
            have M0 := fun y => Ext.cell m0 y
            have M1 := fun y => Ext.cell m1 y
            have M2 := fun y => Ext.cell m2 y
            have Y0 := fun y => Ext.cell y0 y
            have LM := fun y : In (Ext w1) => Nat.lt_of_lt_of_le lm (Below.size y.h)
            have LB := fun y : In (Ext w1) => Nat.lt_of_lt_of_le hbl1 (Below.size y.h)
            clear hqq HFK
            go_wp2_with fail
            haveI := Ext.nonempty w1
            refine wp_region_in (Ext w1) (by kernel_rfl) (by kernel_rfl) (Ext.start w1) ?_
            repeat (go_big_quiet_step ((go_at_call 85; refine Ext.call (HPX.out _ (In.h _)))))
            refine wpQuiet_nil ?_
            rintro w5 ⟨⟨_, h5⟩, rfl⟩
            have HB5 : Hid (Below w0.heap.size w0 _) := hidIt (HB1.out.trans (Below.mono h5 HB1.out.size))
            have HB6 : Hid (Below w.heap.size w _) := hidIt (HB0.out.trans (HB5.out.mono HB0.out.size))
            clear h5 M0 M1 M2 Y0 LM LB m0 m1 m2 lm y0 hbl1
            by_cases hlt2 : q < (k : Int)
            · have hz5 : f2 k = 5 := by rw [HFK2.out, if_pos hlt2]
              have HE5 : Hid (E = 5) := by show _ = _; rw [HEE.out (by rw [hz5]; decide), hz5]
              clear hz5
              go_wp2_with fail
              go_ret
              exact ⟨ret_int HE5.out.symm, HB6.out⟩
            · have hz0 : f2 k = 0 := by rw [HFK2.out, if_neg hlt2]
              have HN := hidIt (HNX.out hz0)
              clear hz0
              go_wp2_with fail
              go_roundw
              case rel => exact ⟨k + 1, by omega, by go_num, HB5.out, HN.out⟩
              case measure => simp [intOf]; omega
          · have hzb : (z == 0) = false := beq_eq_false_iff_ne.2 hz
            have HE5 : Hid (E = z) := by
              show _ = _
              have : f2 k = z := by rw [HFK.out, if_pos hz]
              rw [HEE.out (by rw [this]; exact hz), this]
            go_wp2_with fail
            go_ret
            exact ⟨ret_int HE5.out.symm, HBW.out⟩
        · obtain rfl : k = b.rules.length := by omega
          have HEc3 := hidIt (HEc2.out HF.out)
          clear HEb2 HEc2 HF HP5 hlt
          go_wp2_with fail
          clear k0 k1 k2 lk HKr
          go_loopw [7, 9] (fun i _ wx => ∃ k : Nat, k ≤ b.proms.length ∧ i = .int .i64 k ∧ Hid (Below w0.heap.size w0 wx) ∧ Hid (errUp f3 k = 0)) (fun i _ _ => b.proms.length - (intOf i).toNat)
          case atStart => exact ⟨0, Nat.zero_le _, rfl, HBr.out, rfl⟩
          case round =>
            clear HBr
            obtain ⟨k, hk, rfl, HBr, HF⟩ := hrel
            have HKr := hidIt (blk_kept2 HK0.out HBr.out)
            obtain ⟨k0, k1, k2⟩ := bcell3 HKr.out
            have lk := lt_of_block HKr.out
            by_cases hlt : k < b.proms.length
            · have hkr := hlt
              have hltI : (k : Int) < (b.proms.length : Int) := by omega
              have hk0 : (0 : Int) ≤ (k : Int) := by omega
              obtain ⟨q1, q2, q3⟩ := HOK.out.2.2 _ (List.getElem_mem hkr)
              have HFE : Hid (f3 k ≠ 0 → E = f3 k) := fun h => by rw [HEc3.out, errUp_stop HF.out h _ hkr]
              have HFK := hidIt (HP3.out k hkr)
              have HNX := hidIt (fun h => errUp_next (k := k) HF.out h)
              have HVr := hidIt (HV0.out.below HBr.out)
              obtain ⟨pv, rv, qv, ev, -, -, hpp⟩ := HVr.out
              injection ev with ev
              obtain ⟨rfl, rfl, rfl⟩ : pv = .slice a1 b.prems.length c1 ∧ rv = .slice a2 b.rules.length c2 ∧ qv = .slice a3 b.proms.length c3 := by simpa [eq_comm] using ev
              obtain ⟨aa, ca, ea, -, -, hrow⟩ := RowIn.form hpp
              injection ea with ea eb ec
              subst ea ec
              obtain ⟨bb, off, rfl, hbl, x0, x1, x2, x3⟩ := hrow k hkr
              obtain ⟨P, hP⟩ : ∃ P, b.proms[k] = P := ⟨_, rfl⟩
              rw [hP] at HFK q1 q2 q3
              simp only [hP] at x0 x1 x2 x3
              clear hrow hpp ev hP
              obtain ⟨rl, rk, ⟨g, s⟩⟩ := P
              simp only at x0 x1 x2 x3 q1 q2 q3
              have hgr := bgrow wr (.cells #[.string rl, .int .i64 rk, .bool g, .string s] 78)
              have HBx := hidIt (HBr.out.trans (Below.mono hgr HBr.out.size))
              have HVx := hidIt (HVr.out.below hgr)
              have HKx := hidIt (blk_kept2 HKr.out hgr)
              have HPx := hidIt (heap_alloc_new wr (.cells #[.string rl, .int .i64 rk, .bool g, .string s] 78))
              have hrank : rankB rk true = decide (0 ≤ rk ∧ rk ≤ 9) := by unfold rankB; simp only [if_true, Bool.decide_and]
              have HE : Hid (f3 k = if (decide (0 ≤ rk ∧ rk ≤ 9) && vn s) = false then 1 else if posI (hasName rl) b.rules < 0 then 6 else if strictAt b (posI (hasName rl) b.rules) = true then 4 else 0) := by show _ = _; rw [HFK.out, ← hrank]; rfl
              clear hgr hrank HFK HVr HEc3
              go_upto_region 23 with (fail)
              clear x0 x1 x2 x3 hbl k0 k1 k2 lk HKr
              generalize hw9 : (wr.alloc (.cells #[.string rl, .int .i64 rk, .bool g, .string s] 78)) = w9 at *
              generalize wr.heap.size = p9 at *
              clear hw9
              obtain ⟨p0, p1, p2, p3⟩ := bcell4 HPx.out
              obtain ⟨k0, k1, k2⟩ := bcell3 HKx.out
              have lp := lt_of_block HPx.out
              have lk := lt_of_block HKx.out
              have HB9 := hidIt (HB0.out.trans (HBx.out.mono HB0.out.size))
              go_wp2_with fail
              refine (r5rank_any rk _).mono ?_
              rintro e w1 ⟨rfl, rfl⟩
              cases h1 : decide (0 ≤ rk ∧ rk ≤ 9)
              · have hz : f3 k = 1 := by rw [HE.out, h1]; rfl
                have HEE := hidIt (HFE.out (by rw [hz]; decide))
                have HZ := hidIt hz
                clear hz
                go_wp2_with fail
                go_ret
                exact ⟨ret_int (by rw [HEE.out, HZ.out]), HB9.out⟩
              go_wp2_with fail
              refine (rValid_any g s _ q3).mono ?_
              rintro e w1 ⟨rfl, hb1⟩
              have HB1 := hidIt (HBx.out.trans (hb1.mono HBx.out.size))
              have HBW1 := hidIt (HB9.out.trans (hb1.mono HB9.out.size))
              have HV1 := hidIt (HVx.out.below hb1)
              have HK1 := hidIt (blk_kept2 HKx.out hb1)
              have HP1 := hidIt (blk_kept2 HPx.out hb1)
              clear hb1 HBx HVx HKx HPx p0 p1 p2 p3 k0 k1 k2 lp lk HB9
              obtain ⟨p0, p1, p2, p3⟩ := bcell4 HP1.out
              obtain ⟨k0, k1, k2⟩ := bcell3 HK1.out
              have lp := lt_of_block HP1.out
              have lk := lt_of_block HK1.out
              cases h2 : vn s
              · have hz : f3 k = 1 := by rw [HE.out, h1, h2]; rfl
                have HEE := hidIt (HFE.out (by rw [hz]; decide))
                have HZ := hidIt hz
                clear hz
                go_wp2_with fail
                go_ret
                exact ⟨ret_int (by rw [HEE.out, HZ.out]), HBW1.out⟩
              have HF2 : Hid (f3 k = if posI (hasName rl) b.rules < 0 then 6 else if strictAt b (posI (hasName rl) b.rules) = true then 4 else 0) := by show _ = _; rw [HE.out, h1, h2]; rfl
              clear HE
              go_wp2_with fail
              refine (r5find_any b _ rl _ HV1.out).mono ?_
              rintro e w2 ⟨rfl, hb2⟩
              have HB2 := hidIt (HB1.out.trans (hb2.mono HB1.out.size))
              have HBW2 := hidIt (HBW1.out.trans (hb2.mono HBW1.out.size))
              have HV2 := hidIt (HV1.out.below hb2)
              have HK2 := hidIt (blk_kept2 HK1.out hb2)
              clear hb2 HB1 HV1 HK1 HP1 p0 p1 p2 p3 k0 k1 k2 lp lk HBW1
              obtain ⟨k0, k1, k2⟩ := bcell3 HK2.out
              have lk := lt_of_block HK2.out
              rcases posI_cases (hasName rl) b.rules with hz | ⟨m, hm, hz⟩
              · rw [hz] at HF2 ⊢
                have hf : f3 k = 6 := by rw [HF2.out]; rfl
                have HEE := hidIt (HFE.out (by rw [hf]; decide))
                have HZ := hidIt hf
                clear hf HF2
                go_wp2_with fail
                go_ret
                exact ⟨ret_int (by rw [HEE.out, HZ.out]), HBW2.out⟩
              · rw [hz] at HF2 ⊢
                have hkI : (m : Int) < (b.rules.length : Int) := by omega
                have hkm : (0 : Int) ≤ (m : Int) := by omega
                have hkn : ¬ (m : Int) < 0 := by omega
                obtain ⟨pv, rv, qv, ev, -, hpp, -⟩ := HV2.out
                injection ev with ev
                obtain ⟨rfl, rfl, rfl⟩ : pv = .slice a1 b.prems.length c1 ∧ rv = .slice a2 b.rules.length c2 ∧ qv = .slice (some ⟨bb, off, none⟩) b.proms.length c3 := by simpa [eq_comm] using ev
                obtain ⟨aa, ca, ea, -, -, hrow⟩ := RowIn.form hpp
                injection ea with ea eb ec
                subst ea ec
                obtain ⟨bb2, off2, rfl, hbl, bv, d0, d1, d2, d3, d4, d5, -⟩ := hrow m hm
                have HS : Hid (strictAt b (m : Int) = b.rules[m].strict) := by show _ = _; unfold strictAt; rw [Int.toNat_natCast, List.getElem?_eq_getElem hm]; rfl
                clear hrow d0 d2 d3 d4 d5 hpp ev hz
                cases h3 : b.rules[m].strict
                · have hf : f3 k = 0 := by rw [HF2.out, if_neg hkn, HS.out, h3]; rfl
                  have HN := hidIt (HNX.out hf)
                  rw [h3] at d1
                  clear HF2 hf
                  go_wp2_with fail
                  go_roundw
                  case rel => exact ⟨k + 1, by omega, by go_num, HB2.out, HN.out⟩
                  case measure => simp [intOf]; omega
                · have hf : f3 k = 4 := by rw [HF2.out, if_neg hkn, HS.out, h3]; rfl
                  have HEE := hidIt (HFE.out (by rw [hf]; decide))
                  have HZ := hidIt hf
                  rw [h3] at d1
                  clear HF2 hf
                  go_wp2_with fail
                  go_ret
                  exact ⟨ret_int (by rw [HEE.out, HZ.out]), HBW2.out⟩
            · obtain rfl : k = b.proms.length := by omega
              have HEE : Hid (E = 0) := by show _ = _; rw [HEc3.out, HF.out]
              have HBW := hidIt (HB0.out.trans (Below.mono HBr.out HB0.out.size))
              go_wp2_with fail
              go_ret
              exact ⟨ret_int HEE.out.symm, HBW.out⟩
end Go.Proofs.YtfcoplplkbeljaaGreatDoor
