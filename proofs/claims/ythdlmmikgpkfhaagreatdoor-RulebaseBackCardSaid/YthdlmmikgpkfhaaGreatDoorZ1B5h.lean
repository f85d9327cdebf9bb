/- What Validate says of a rule. -/
import Derived.Test.YthdlmmikgpkfhaaGreatDoorZ1C
import Derived.Test.YthdlmmikgpkfhaaGreatDoorZ1A
import Derived.Test.YthdlmmikgpkfhaaGreatDoorRelS

namespace Go.Proofs.YthdlmmikgpkfhaaGreatDoor
set_option linter.unusedVariables false
set_option linter.unusedSimpArgs false
open Go Go.RowKit

theorem BodyAt.lits {w : World} {v : Value} {xs : List Lt} (h : BodyAt w v xs) : (NoRow v ∧ xs = []) ∨ LitsAt w v xs := by
  rcases h with h | ⟨b, off, cap, h1, h2, h3, h4, h5⟩
  · exact .inl h
  · refine .inr (.inr ⟨b, off, cap, h1, h2, h3, h4, fun i hi => ?_⟩)
    rw [getElem!_pos xs i hi]
    exact h5 i hi
theorem LitsAt.body {w : World} {v : Value} {xs : List Lt} (h : LitsAt w v xs) : BodyAt w v xs := by
  rcases h with ⟨h, h0⟩ | ⟨b, off, cap, h1, h2, h3, h4, h5⟩
  · exact .inl ⟨h ▸ noRow_nil, h0⟩
  · refine .inr ⟨b, off, cap, h1, h2, h3, h4, fun i hi => ?_⟩
    have := h5 i hi
    rw [getElem!_pos xs i hi] at this
    exact this

theorem sort_zero (a : Option Addr) (c : Nat) (w : World) : Calls Tryz.prog 144 #[.slice a 0 c, .func (.func 145) #[] #[]] w fun e w' => e = .returned (.tuple #[]) ∧ w' = w :=
  AnyF.slices_SortFunc_none Tryz.sortL a c _ w
theorem clone_zero (a : Option Addr) (c : Nat) (w : World) : Calls Tryz.prog 92 #[.slice a 0 c] w fun e w' => ∃ (a' : Option Addr) (c' : Nat), e = .returned (.slice a' 0 c') ∧ c' ≤ maxLen ∧ Below w.heap.size w w' := by
  have q22 : ∀ (w : World) (a : Option Addr) (n c n' c' : Nat), (binOp .eql 58 (.slice a n c) (.slice none n' c')).run Tryz.prog w = .ok (.bool a.isNone) w := fun w a n c n' c' => Lib.run_eql_slice_nil w _ _ a n c n' c' Tryz.underlying58
  cases a with
  | none =>
    go_enter Tryz.func92, Tryz.ntmps92
    go_wp2
    go_ret
    exact ⟨_, _, rfl, by unfold maxLen; omega, Below.refl _ _⟩
  | some x =>
    go_enter Tryz.func92, Tryz.ntmps92
    go_wp2
    go_ret
    exact ⟨_, _, rfl, by unfold maxLen; omega, bgrow w _⟩
theorem compact_zero (a : Option Addr) (c : Nat) (w : World) : Calls Tryz.prog 146 #[.slice a 0 c] w fun e w' => e = .returned (.slice a 0 c) ∧ w = w' := by
  go_enter Tryz.func146, Tryz.ntmps146
  go_wp2
  go_ret
  exact ⟨rfl, rfl⟩
/-- literal.Normal at the body of a rule. -/
theorem normalB_any (v : Value) (xs : List Lt) (w : World) (h : BodyAt w v xs) (hn : xs.length ≤ 1000000) :
    Calls Tryz.prog 97 #[v] w fun e w' => ∃ v', e = .returned v' ∧ BodyAt w' v' (nrm xs) ∧ Below w.heap.size w w' := by
  rcases h.lits with ⟨⟨a, c, rfl, hc⟩, rfl⟩ | h1
  · go_enter Tryz.func97, Tryz.ntmps97
    go_wp2_with fail
    refine (clone_zero a c _).mono ?_
    rintro e w1 ⟨a', c', rfl, hc', hb1⟩
    have HB1 := hidIt hb1
    clear hb1
    go_wp2_with fail
    refine (sort_zero a' c' _).mono ?_
    rintro e w2 ⟨rfl, rfl⟩
    go_wp2_with fail
    refine (compact_zero a' c' _).mono ?_
    rintro e w3 ⟨rfl, rfl⟩
    go_wp2_with fail
    go_ret
    exact ⟨_, rfl, .inl ⟨⟨_, _, rfl, hc'⟩, by simp [nrm, srt, cpt, Lib.compactUpTo]⟩, HB1.out⟩
  · exact (normal_any v xs w h1 hn).mono fun e w' ⟨v', he, ho, hb⟩ => ⟨v', he, ho.lits.body, hb⟩

theorem bcell6 {w : World} {b : Nat} {u0 u1 u2 u3 u4 u5 : Value} {t : TypeId} (h : w.heap[b]? = some (.cells #[u0, u1, u2, u3, u4, u5] t (0, 0))) : w.cell? ⟨b, 0, none⟩ = some u0 ∧ w.cell? ⟨b, 1, none⟩ = some u1 ∧ w.cell? ⟨b, 2, none⟩ = some u2 ∧ w.cell? ⟨b, 3, none⟩ = some u3 ∧ w.cell? ⟨b, 4, none⟩ = some u4 ∧ w.cell? ⟨b, 5, none⟩ = some u5 :=
  ⟨by simp [World.cell?, h], by simp [World.cell?, h], by simp [World.cell?, h], by simp [World.cell?, h], by simp [World.cell?, h], by simp [World.cell?, h]⟩

/-- A list of literals, as a relation. -/
def isBody (xs : List Lt) : Value → World → Prop := fun v w => BodyAt w v xs
theorem isBody_up (xs : List Lt) : GoesUp (isBody xs) := fun _ _ _ hg h => BodyAt.below h hg

/-- What is wrong with a rule, beside those before it: 2 a body too long, 1 out of range, 8 a body not in order, 5 there already. -/
def ruleB (r : Ru) : Bool := vn r.name && (rankB r.rank (!r.strict) && (vn r.head.name && !r.body.any badL))
def ruleE (b : Bs) (r : Ru) (i : Nat) : Int := if 4 < r.body.length then 2 else if ruleB r = false then 1 else if decide (r.body = nrm r.body) = false then 8 else if posI (hasName r.name) b.rules < (i : Int) then 5 else 0

set_option maxHeartbeats 2000000 in
theorem valRule_any (b : Bs) (hb : BsOk b) (v : Value) (i : Nat) (hi : i < b.rules.length) (w : World) (hv : BaseAt w v b) :
    Calls Tryz.prog 66 #[v, .int .i64 (i : Int)] w fun e w' => e = .returned (.int .i64 (ruleE b b.rules[i] i)) ∧ Below w.heap.size w w' := by
  have HVW := hidIt hv
  obtain ⟨a1, a2, a3, c1, c2, c3, rfl, -, -, hlen, hcap, -, -, -, hr, -⟩ := hv.form
  obtain ⟨o1, o2, o3, o4⟩ := hb.2.1 _ (List.getElem_mem hi)
  obtain ⟨a2', c2', e1, -, -, hrow⟩ := RowIn.form hr
  injection e1 with e1 e2 e3
  subst e1 e3
  obtain ⟨bb, off, rfl, hbl, bv, d0, d1, d2, d3, d4, d5, hbody⟩ := hrow i hi
  have hiI : (i : Int) < (b.rules.length : Int) := by omega
  have hi0 : (0 : Int) ≤ (i : Int) := by omega
  have hl1 : b.rules.length ≤ 9223372036854775807 := by unfold maxLen at hcap; omega
  generalize hp : b.rules[i] = r at *
  obtain ⟨nm, st, rk, xs, ⟨hg, hs⟩⟩ := r
  simp only at d0 d1 d2 d3 d4 d5 o1 o2 o3 o4 hbody
  obtain ⟨ab, cb, rfl, hlb, hcb, -⟩ := hbody.form
  have hxl : xs.length ≤ 9223372036854775807 := by unfold maxLen at hcb; omega
  have hgr := bgrow w (.cells #[.slice a1 b.prems.length c1, .slice (some ⟨bb, off, none⟩) b.rules.length c2, .slice a3 b.proms.length c3] 26)
  have x0 := (hgr.cell (p := ⟨bb, _, none⟩) hbl).trans d0
  have x1 := (hgr.cell (p := ⟨bb, _, none⟩) hbl).trans d1
  have x2 := (hgr.cell (p := ⟨bb, _, none⟩) hbl).trans d2
  have x3 := (hgr.cell (p := ⟨bb, _, none⟩) hbl).trans d3
  have x4 := (hgr.cell (p := ⟨bb, _, none⟩) hbl).trans d4
  have x5 := (hgr.cell (p := ⟨bb, _, none⟩) hbl).trans d5
  have hbl2 := Nat.lt_of_lt_of_le hbl hgr.size
  have hg2 := bgrow2 w (.cells #[.slice a1 b.prems.length c1, .slice (some ⟨bb, off, none⟩) b.rules.length c2, .slice a3 b.proms.length c3] 26) (.cells #[.string nm, .bool st, .int .i64 rk, .slice ab xs.length cb, .bool hg, .string hs] 66)
  have HB0 := hidIt hg2
  have HV0 := hidIt (HVW.out.below hg2)
  have HY0 := hidIt (hbody.below hg2)
  have HK0 := hidIt (blk_kept2 (heap_alloc_new w (.cells #[.slice a1 b.prems.length c1, .slice (some ⟨bb, off, none⟩) b.rules.length c2, .slice a3 b.proms.length c3] 26)) (bgrow _ (.cells #[.string nm, .bool st, .int .i64 rk, .slice ab xs.length cb, .bool hg, .string hs] 66)))
  have HP0 := hidIt (heap_alloc_new (w.alloc (.cells #[.slice a1 b.prems.length c1, .slice (some ⟨bb, off, none⟩) b.rules.length c2, .slice a3 b.proms.length c3] 26)) (.cells #[.string nm, .bool st, .int .i64 rk, .slice ab xs.length cb, .bool hg, .string hs] 66))
  rw [size_alloc] at HP0
  have HO4 := hidIt o4
  have HE : Hid (ruleE b ⟨nm, st, rk, xs, ⟨hg, hs⟩⟩ i = if 4 < xs.length then 2 else if (vn nm && (rankB rk (!st) && (vn hs && !xs.any badL))) = false then 1 else if decide (xs = nrm xs) = false then 8 else if posI (hasName nm) b.rules < (i : Int) then 5 else 0) := by show _ = _; rfl
  generalize ruleE b ⟨nm, st, rk, xs, ⟨hg, hs⟩⟩ i = E at *
  clear hrow hr hv hgr hg2 hbl d0 d1 d2 d3 d4 d5 HVW e2 hbody o4
  by_cases h4 : 4 < xs.length
  case pos =>
    have h4I : (4 : Int) < (xs.length : Int) := by omega
    have HE2 : Hid (E = 2) := by show _ = _; rw [HE.out, if_pos h4]
    clear h4 HE
    go_enter Tryz.func66, Tryz.ntmps66
    go_wp2_with fail
    go_ret
    exact ⟨ret_int HE2.out.symm, HB0.out⟩
  case neg =>
  have h4I : ¬ (4 : Int) < (xs.length : Int) := by omega
  have HX4 : Hid (xs.length ≤ 1000000) := (by omega : xs.length ≤ 1000000)
  have HE2 : Hid (E = if (vn nm && (rankB rk (!st) && (vn hs && !xs.any badL))) = false then 1 else if decide (xs = nrm xs) = false then 8 else if posI (hasName nm) b.rules < (i : Int) then 5 else 0) := by show _ = _; rw [HE.out, if_neg h4]
  clear h4 HE
  go_enter Tryz.func66, Tryz.ntmps66
  go_wp2_with fail
  clear x0 x1 x2 x3 x4 x5 hbl2 h4I
  generalize ((w.alloc (.cells #[.slice a1 b.prems.length c1, .slice (some ⟨bb, off, none⟩) b.rules.length c2, .slice a3 b.proms.length c3] 26)).alloc _) = w0 at *
  refine (validName_any nm _ o1).mono ?_
  rintro e w1 ⟨rfl, rfl⟩
  obtain ⟨p0, p1, p2, p3, p4, p5⟩ := bcell6 HP0.out
  obtain ⟨k0, k1, k2⟩ := bcell3 HK0.out
  have lp := lt_of_block HP0.out
  have lk := lt_of_block HK0.out
  cases h1 : vn nm
  · go_wp2_with fail
    go_ret
    exact ⟨ret_int (by rw [HE2.out, h1]; rfl), HB0.out⟩
  go_wp2_with fail
  refine (rankFits_any rk _ o2 _).mono ?_
  rintro e w1 ⟨rfl, rfl⟩
  cases h2 : rankB rk (!st)
  · go_wp2_with fail
    go_ret
    exact ⟨ret_int (by rw [HE2.out, h1, h2]; rfl), HB0.out⟩
  go_wp2_with fail
  refine (valid_any hg hs _ o3).mono ?_
  rintro e w1 ⟨rfl, hb1⟩
  have HB1 := hidIt (HB0.out.trans (hb1.mono HB0.out.size))
  have HV1 := hidIt (HV0.out.below hb1)
  have HY1 := hidIt (HY0.out.below hb1)
  have HK1 := hidIt (blk_kept2 HK0.out hb1)
  have HP1 := hidIt (blk_kept2 HP0.out hb1)
  clear hb1 HB0 HV0 HY0 HK0 HP0 p0 p1 p2 p3 p4 p5 k0 k1 k2 lp lk
  obtain ⟨p0, p1, p2, p3, p4, p5⟩ := bcell6 HP1.out
  obtain ⟨k0, k1, k2⟩ := bcell3 HK1.out
  have lp := lt_of_block HP1.out
  have lk := lt_of_block HK1.out
  cases h3 : vn hs
  · go_wp2_with fail
    go_ret
    exact ⟨ret_int (by rw [HE2.out, h1, h2, h3]; rfl), HB1.out⟩
  go_wp2_with fail
  refine (anyLit_any xs HO4.out _ _ HY1.out).mono ?_
  rintro e w2 ⟨rfl, hb2⟩
  have HB2 := hidIt (HB1.out.trans (hb2.mono HB1.out.size))
  have HV2 := hidIt (HV1.out.below hb2)
  have HY2 := hidIt (HY1.out.below hb2)
  have HK2 := hidIt (blk_kept2 HK1.out hb2)
  have HP2 := hidIt (blk_kept2 HP1.out hb2)
  clear hb2 HB1 HV1 HY1 HK1 HP1 p0 p1 p2 p3 p4 p5 k0 k1 k2 lp lk
  obtain ⟨p0, p1, p2, p3, p4, p5⟩ := bcell6 HP2.out
  obtain ⟨k0, k1, k2⟩ := bcell3 HK2.out
  have lp := lt_of_block HP2.out
  have lk := lt_of_block HK2.out
  cases h5 : xs.any badL
  case true =>
    go_wp2_with fail
    go_ret
    exact ⟨ret_int (by rw [HE2.out, h1, h2, h3, h5]; rfl), HB2.out⟩
  have HE3 : Hid (E = if decide (xs = nrm xs) = false then 8 else if posI (hasName nm) b.rules < (i : Int) then 5 else 0) := by show _ = _; rw [HE2.out, h1, h2, h3, h5]; rfl
  clear HE2
  go_wp2_with fail
  have X3 : ∀ wx, Ext w2 wx → wx.cell? ⟨w.heap.size + 1, 3, none⟩ = some (.slice ab xs.length cb) := fun wx hC => ext_cell p3 lp hC
  have HN : Hid (∀ wx, Ext w2 wx → Calls Tryz.prog 97 #[.slice ab xs.length cb] wx fun e w'' => ∃ u, e = .returned u ∧ Ext w2 w'' ∧ Grows wx w'' ∧ isBody (nrm xs) u w'') := fun wx hC =>
    rel_call hC (normalB_any _ xs wx (HY2.out.below hC) HX4.out)
  have HQ : Hid (∀ wx u, Ext w2 wx → BodyAt wx u (nrm xs) → Calls Tryz.prog 123 #[.slice ab xs.length cb, u] wx fun e w'' => ∃ u, e = .returned u ∧ Ext w2 w'' ∧ Grows wx w'' ∧ isB (decide (xs = nrm xs)) u w'') := fun wx u hC hu =>
    rel_call hC ((eqLits_any xs (nrm xs) _ u wx (HY2.out.below hC) hu).mono fun e w'' ⟨he, hb⟩ => ⟨_, he, rfl, hb⟩)
  have HD : Hid (∀ q : Bool, decide (xs = nrm xs) = q → E = if q = false then 8 else if posI (hasName nm) b.rules < (i : Int) then 5 else 0) := fun q hq => by rw [HE3.out, hq]
  clear HE3
  generalize hq : decide (xs = nrm xs) = q at *
  have HDq := hidIt (HD.out q rfl)
  clear HD hq
  haveI : Nonempty (In (Ext w2)) := Ext.nonempty w2
  refine wp_region_rel (Ext w2) Grows (relTab [(40, isBody (nrm xs)), (41, isB q)]) (by kernel_rfl) (by kernel_rfl) (by kernel_rfl) (stable_cons (isBody_up _) (stable_cons (isB_up _) (stable_nil _))) (Ext.start w2) ?_
  repeat (
    refine' walkR_plain (by kernel_rfl) rfl rfl (fun wx hC hL => ?_) ?_
    rotate_left
    · (have hlw := Nat.lt_of_lt_of_le lp (Below.size hC)
       simp only [X3 wx hC, hlw, go_sem]; first | done | (go_simp; exact ⟨rfl, rfl⟩))
    simp only [Act.put, List.setIfInBounds_toArray, List.set_cons_zero, List.set_cons_succ])
  refine walkR_rel (by kernel_rfl) rfl rfl (of_decide_eq_true (by kernel_rfl)) (fun wx hC hL => ?_) (fun v hv => ?_)
  · go_simp
    exact HN.out wx hC
  obtain ⟨_, _, -⟩ := hv
  simp only [Act.put, List.setIfInBounds_toArray, List.set_cons_zero, List.set_cons_succ]
  refine walkR_rel (by kernel_rfl) rfl rfl (of_decide_eq_true (by kernel_rfl)) (fun wx hC hL => ?_) (fun v hv => ?_)
  · have hbv : BodyAt wx v (nrm xs) := hL.get 40 (by simp [more]) (by kernel_rfl) rfl rfl
    go_simp
    exact HQ.out wx v hC hbv
  obtain ⟨_, _, rfl⟩ := hv
  simp only [Act.put, List.setIfInBounds_toArray, List.set_cons_zero, List.set_cons_succ]
  repeat (
    refine' walkR_plain (by kernel_rfl) rfl rfl (fun wx hC hL => ?_) ?_
    rotate_left
    · (have hlw := Nat.lt_of_lt_of_le lp (Below.size hC)
       simp only [X3 wx hC, hlw, go_sem]; first | done | (go_simp; exact ⟨rfl, rfl⟩))
    simp only [Act.put, List.setIfInBounds_toArray, List.set_cons_zero, List.set_cons_succ])
  refine fun w3 hC3 _ => ?_
  have HB3 := hidIt (HB2.out.trans (Below.mono hC3 HB2.out.size))
  have HV3 := hidIt (HV2.out.below hC3)
  have HK3 := hidIt (blk_kept2 HK2.out hC3)
  have HP3 := hidIt (blk_kept2 HP2.out hC3)
  clear hC3 X3 HN HQ HB2 HV2 HY2 HK2 HP2 p0 p1 p2 p3 p4 p5 k0 k1 k2 lp lk
  obtain ⟨p0, p1, p2, p3, p4, p5⟩ := bcell6 HP3.out
  obtain ⟨k0, k1, k2⟩ := bcell3 HK3.out
  have lp := lt_of_block HP3.out
  have lk := lt_of_block HK3.out
  cases q
  · go_wp2_with fail
    go_ret
    exact ⟨ret_int (by rw [HDq.out]; rfl), HB3.out⟩
  have HF : Hid (E = if posI (hasName nm) b.rules < (i : Int) then 5 else 0) := by show _ = _; rw [HDq.out]; rfl
  clear HDq
  go_wp2_with fail
  refine (bfind_any b _ nm _ HV3.out).mono ?_
  rintro e w4 ⟨rfl, hb4⟩
  have HB4 := hidIt (HB3.out.trans (hb4.mono HB3.out.size))
  clear hb4 p0 p1 p2 p3 p4 p5 k0 k1 k2 lp lk HV3 HK3 HP3
  generalize posI (hasName nm) b.rules = z at *
  by_cases hz : z < (i : Int)
  · have hF : E = 5 := by rw [HF.out, if_pos hz]
    clear HF
    go_wp2_with fail
    go_ret
    exact ⟨ret_int hF.symm, HB4.out⟩
  · have hF : E = 0 := by rw [HF.out, if_neg hz]
    clear HF
    go_wp2_with fail
    go_ret
    exact ⟨ret_int hF.symm, HB4.out⟩

end Go.Proofs.YthdlmmikgpkfhaaGreatDoor
