/- What Validate says of a rule. Validate of a rule base. A list of literals is its own normal form just if it ascends. -/
import Derived.Test.YtfcoplplkbeljaaGreatDoorZ1C
import Derived.Test.YtfcoplplkbeljaaGreatDoorZ1A
import Derived.Test.YtfcoplplkbeljaaGreatDoorRelS

namespace Go.Proofs.YtfcoplplkbeljaaGreatDoor
set_option linter.unusedVariables false
set_option linter.unusedSimpArgs false
open Go Go.RowKit

theorem BodyAt.lits {w : World} {v : Value} {xs : List Lt} (h : BodyAt w v xs) : (NoRow v ∧ xs = []) ∨ LitsAt w v xs := by
  rcases h with h | ⟨b, off, cap, h1, h2, h3, h4, h5⟩
  · exact .inl h
  · refine .inr (.inr ⟨b, off, cap, h1, h2, h3, h4, fun i hi => ?_⟩)
    rw [getElem!_pos xs i hi]
    exact h5 i hi
theorem LitsAt.body {w : World} {v : Value} {xs : List Lt} (h : LitsAt w v xs) : BodyAt w v xs := by
  rcases h with ⟨h, h0⟩ | ⟨b, off, cap, h1, h2, h3, h4, h5⟩
  · exact .inl ⟨h ▸ noRow_nil, h0⟩
  · refine .inr ⟨b, off, cap, h1, h2, h3, h4, fun i hi => ?_⟩
    have := h5 i hi
    rw [getElem!_pos xs i hi] at this
    exact this

theorem sort_zero (a : Option Addr) (c : Nat) (w : World) : Calls Tryz.prog 111 #[.slice a 0 c, .func (.func 112) #[] #[]] w fun e w' => e = .returned (.tuple #[]) ∧ w' = w :=
  AnyF.slices_SortFunc_none Tryz.sortL a c _ w
theorem clone_zero (a : Option Addr) (c : Nat) (w : World) : Calls Tryz.prog 110 #[.slice a 0 c] w fun e w' => ∃ (a' : Option Addr) (c' : Nat), e = .returned (.slice a' 0 c') ∧ c' ≤ maxLen ∧ Below w.heap.size w w' := by
  have q22 : ∀ (w : World) (a : Option Addr) (n c n' c' : Nat), (binOp .eql 44 (.slice a n c) (.slice none n' c')).run Tryz.prog w = .ok (.bool a.isNone) w := fun w a n c n' c' => Lib.run_eql_slice_nil w _ _ a n c n' c' Tryz.underlying44
  cases a with
  | none =>
    go_enter Tryz.func110, Tryz.ntmps110
    go_wp2
    go_ret
    exact ⟨_, _, rfl, by unfold maxLen; omega, Below.refl _ _⟩
  | some x =>
    go_enter Tryz.func110, Tryz.ntmps110
    go_wp2
    go_ret
    exact ⟨_, _, rfl, by unfold maxLen; omega, bgrow w _⟩
theorem compact_zero (a : Option Addr) (c : Nat) (w : World) : Calls Tryz.prog 113 #[.slice a 0 c] w fun e w' => e = .returned (.slice a 0 c) ∧ w = w' := by
  go_enter Tryz.func113, Tryz.ntmps113
  go_wp2
  go_ret
  exact ⟨rfl, rfl⟩
/-- literal.Normal at the body of a rule. -/
theorem normalB_any (v : Value) (xs : List Lt) (w : World) (h : BodyAt w v xs) (hn : xs.length ≤ 1000000) :
    Calls Tryz.prog 59 #[v] w fun e w' => ∃ v', e = .returned v' ∧ BodyAt w' v' (nrm xs) ∧ Below w.heap.size w w' := by
  rcases h.lits with ⟨⟨a, c, rfl, hc⟩, rfl⟩ | h1
  · go_enter Tryz.func59, Tryz.ntmps59
    go_wp2_with fail
    refine (clone_zero a c _).mono ?_
    rintro e w1 ⟨a', c', rfl, hc', hb1⟩
    have HB1 := hidIt hb1
    clear hb1
    go_wp2_with fail
    refine (sort_zero a' c' _).mono ?_
    rintro e w2 ⟨rfl, rfl⟩
    go_wp2_with fail
    refine (compact_zero a' c' _).mono ?_
    rintro e w3 ⟨rfl, rfl⟩
    go_wp2_with fail
    go_ret
    exact ⟨_, rfl, .inl ⟨⟨_, _, rfl, hc'⟩, by simp [nrm, srt, cpt, Lib.compactUpTo]⟩, HB1.out⟩
  · exact (normal_any v xs w h1 hn).mono fun e w' ⟨v', he, ho, hb⟩ => ⟨v', he, ho.lits.body, hb⟩

theorem bcell6 {w : World} {b : Nat} {u0 u1 u2 u3 u4 u5 : Value} {t : TypeId} (h : w.heap[b]? = some (.cells #[u0, u1, u2, u3, u4, u5] t (0, 0))) : w.cell? ⟨b, 0, none⟩ = some u0 ∧ w.cell? ⟨b, 1, none⟩ = some u1 ∧ w.cell? ⟨b, 2, none⟩ = some u2 ∧ w.cell? ⟨b, 3, none⟩ = some u3 ∧ w.cell? ⟨b, 4, none⟩ = some u4 ∧ w.cell? ⟨b, 5, none⟩ = some u5 :=
  ⟨by simp [World.cell?, h], by simp [World.cell?, h], by simp [World.cell?, h], by simp [World.cell?, h], by simp [World.cell?, h], by simp [World.cell?, h]⟩

/-- A list of literals, as a relation. -/
def isBody (xs : List Lt) : Value → World → Prop := fun v w => BodyAt w v xs
theorem isBody_up (xs : List Lt) : GoesUp (isBody xs) := fun _ _ _ hg h => BodyAt.below h hg

/-- What is wrong with a rule, beside those before it: 2 a body too long, 1 out of range, 8 a body not in order, 5 there already. -/
def ruleB (r : Ru) : Bool := vn r.name && (rankB r.rank (!r.strict) && (vn r.head.name && !r.body.any badL))
def ruleE (b : Bs) (r : Ru) (i : Nat) : Int := if 4 < r.body.length then 2 else if ruleB r = false then 1 else if decide (r.body = nrm r.body) = false then 8 else if posI (hasName r.name) b.rules < (i : Int) then 5 else 0

set_option maxHeartbeats 2000000 in
theorem valRule_any (b : Bs) (hb : BsOk b) (v : Value) (i : Nat) (hi : i < b.rules.length) (w : World) (hv : BaseAt w v b) :
    Calls Tryz.prog 102 #[v, .int .i64 (i : Int)] w fun e w' => e = .returned (.int .i64 (ruleE b b.rules[i] i)) ∧ Below w.heap.size w w' := by
  have HVW := hidIt hv
  obtain ⟨a1, a2, a3, c1, c2, c3, rfl, -, -, hlen, hcap, -, -, -, hr, -⟩ := hv.form
  obtain ⟨o1, o2, o3, o4⟩ := hb.2.1 _ (List.getElem_mem hi)
  obtain ⟨a2', c2', e1, -, -, hrow⟩ := RowIn.form hr
  injection e1 with e1 e2 e3
  subst e1 e3
  obtain ⟨bb, off, rfl, hbl, bv, d0, d1, d2, d3, d4, d5, hbody⟩ := hrow i hi
  have hiI : (i : Int) < (b.rules.length : Int) := by omega
  have hi0 : (0 : Int) ≤ (i : Int) := by omega
  have hl1 : b.rules.length ≤ 9223372036854775807 := by unfold maxLen at hcap; omega
  generalize hp : b.rules[i] = r at *
  obtain ⟨nm, st, rk, xs, ⟨hg, hs⟩⟩ := r
  simp only at d0 d1 d2 d3 d4 d5 o1 o2 o3 o4 hbody
  obtain ⟨ab, cb, rfl, hlb, hcb, -⟩ := hbody.form
  have hxl : xs.length ≤ 9223372036854775807 := by unfold maxLen at hcb; omega
  have hgr := bgrow w (.cells #[.slice a1 b.prems.length c1, .slice (some ⟨bb, off, none⟩) b.rules.length c2, .slice a3 b.proms.length c3] 32)
  have x0 := (hgr.cell (p := ⟨bb, _, none⟩) hbl).trans d0
  have x1 := (hgr.cell (p := ⟨bb, _, none⟩) hbl).trans d1
  have x2 := (hgr.cell (p := ⟨bb, _, none⟩) hbl).trans d2
  have x3 := (hgr.cell (p := ⟨bb, _, none⟩) hbl).trans d3
  have x4 := (hgr.cell (p := ⟨bb, _, none⟩) hbl).trans d4
  have x5 := (hgr.cell (p := ⟨bb, _, none⟩) hbl).trans d5
  have hbl2 := Nat.lt_of_lt_of_le hbl hgr.size
  have hg2 := bgrow2 w (.cells #[.slice a1 b.prems.length c1, .slice (some ⟨bb, off, none⟩) b.rules.length c2, .slice a3 b.proms.length c3] 32) (.cells #[.string nm, .bool st, .int .i64 rk, .slice ab xs.length cb, .bool hg, .string hs] 64)
  have HB0 := hidIt hg2
  have HV0 := hidIt (HVW.out.below hg2)
  have HY0 := hidIt (hbody.below hg2)
  have HK0 := hidIt (blk_kept2 (heap_alloc_new w (.cells #[.slice a1 b.prems.length c1, .slice (some ⟨bb, off, none⟩) b.rules.length c2, .slice a3 b.proms.length c3] 32)) (bgrow _ (.cells #[.string nm, .bool st, .int .i64 rk, .slice ab xs.length cb, .bool hg, .string hs] 64)))
  have HP0 := hidIt (heap_alloc_new (w.alloc (.cells #[.slice a1 b.prems.length c1, .slice (some ⟨bb, off, none⟩) b.rules.length c2, .slice a3 b.proms.length c3] 32)) (.cells #[.string nm, .bool st, .int .i64 rk, .slice ab xs.length cb, .bool hg, .string hs] 64))
  rw [size_alloc] at HP0
  have HO4 := hidIt o4
  have HE : Hid (ruleE b ⟨nm, st, rk, xs, ⟨hg, hs⟩⟩ i = if 4 < xs.length then 2 else if (vn nm && (rankB rk (!st) && (vn hs && !xs.any badL))) = false then 1 else if decide (xs = nrm xs) = false then 8 else if posI (hasName nm) b.rules < (i : Int) then 5 else 0) := by show _ = _; rfl
  generalize ruleE b ⟨nm, st, rk, xs, ⟨hg, hs⟩⟩ i = E at *
  clear hrow hr hv hgr hg2 hbl d0 d1 d2 d3 d4 d5 HVW e2 hbody o4
  by_cases h4 : 4 < xs.length
  case pos =>
    have h4I : (4 : Int) < (xs.length : Int) := by omega
    have HE2 : Hid (E = 2) := by show _ = _; rw [HE.out, if_pos h4]
    clear h4 HE
    go_enter Tryz.func102, Tryz.ntmps102
    go_wp2_with fail
    go_ret
    exact ⟨ret_int HE2.out.symm, HB0.out⟩
  case neg =>
  have h4I : ¬ (4 : Int) < (xs.length : Int) := by omega
  have HX4 : Hid (xs.length ≤ 1000000) := (by omega : xs.length ≤ 1000000)
  have HE2 : Hid (E = if (vn nm && (rankB rk (!st) && (vn hs && !xs.any badL))) = false then 1 else if decide (xs = nrm xs) = false then 8 else if posI (hasName nm) b.rules < (i : Int) then 5 else 0) := by show _ = _; rw [HE.out, if_neg h4]
  clear h4 HE
  go_enter Tryz.func102, Tryz.ntmps102
  go_wp2_with fail
  clear x0 x1 x2 x3 x4 x5 hbl2 h4I
  generalize ((w.alloc (.cells #[.slice a1 b.prems.length c1, .slice (some ⟨bb, off, none⟩) b.rules.length c2, .slice a3 b.proms.length c3] 32)).alloc _) = w0 at *
  refine (validName_any nm _ o1).mono ?_
  rintro e w1 ⟨rfl, rfl⟩
  obtain ⟨p0, p1, p2, p3, p4, p5⟩ := bcell6 HP0.out
  obtain ⟨k0, k1, k2⟩ := bcell3 HK0.out
  have lp := lt_of_block HP0.out
  have lk := lt_of_block HK0.out
  cases h1 : vn nm
  · go_wp2_with fail
    go_ret
    exact ⟨ret_int (by rw [HE2.out, h1]; rfl), HB0.out⟩
  go_wp2_with fail
  refine (rankFits_any rk _ o2 _).mono ?_
  rintro e w1 ⟨rfl, rfl⟩
  cases h2 : rankB rk (!st)
  · go_wp2_with fail
    go_ret
    exact ⟨ret_int (by rw [HE2.out, h1, h2]; rfl), HB0.out⟩
  go_wp2_with fail
  refine (valid_any hg hs _ o3).mono ?_
  rintro e w1 ⟨rfl, hb1⟩
  have HB1 := hidIt (HB0.out.trans (hb1.mono HB0.out.size))
  have HV1 := hidIt (HV0.out.below hb1)
  have HY1 := hidIt (HY0.out.below hb1)
  have HK1 := hidIt (blk_kept2 HK0.out hb1)
  have HP1 := hidIt (blk_kept2 HP0.out hb1)
  clear hb1 HB0 HV0 HY0 HK0 HP0 p0 p1 p2 p3 p4 p5 k0 k1 k2 lp lk
  obtain ⟨p0, p1, p2, p3, p4, p5⟩ := bcell6 HP1.out
  obtain ⟨k0, k1, k2⟩ := bcell3 HK1.out
  have lp := lt_of_block HP1.out
  have lk := lt_of_block HK1.out
  cases h3 : vn hs
  · go_wp2_with fail
    go_ret
    exact ⟨ret_int (by rw [HE2.out, h1, h2, h3]; rfl), HB1.out⟩
  go_wp2_with fail
  refine (anyLit_any xs HO4.out _ _ HY1.out).mono ?_
  rintro e w2 ⟨rfl, hb2⟩
  have HB2 := hidIt (HB1.out.trans (hb2.mono HB1.out.size))
  have HV2 := hidIt (HV1.out.below hb2)
  have HY2 := hidIt (HY1.out.below hb2)
  have HK2 := hidIt (blk_kept2 HK1.out hb2)
  have HP2 := hidIt (blk_kept2 HP1.out hb2)
  clear hb2 HB1 HV1 HY1 HK1 HP1 p0 p1 p2 p3 p4 p5 k0 k1 k2 lp lk
  obtain ⟨p0, p1, p2, p3, p4, p5⟩ := bcell6 HP2.out
  obtain ⟨k0, k1, k2⟩ := bcell3 HK2.out
  have lp := lt_of_block HP2.out
  have lk := lt_of_block HK2.out
  cases h5 : xs.any badL
  case true =>
    go_wp2_with fail
    go_ret
    exact ⟨ret_int (by rw [HE2.out, h1, h2, h3, h5]; rfl), HB2.out⟩
  have HE3 : Hid (E = if decide (xs = nrm xs) = false then 8 else if posI (hasName nm) b.rules < (i : Int) then 5 else 0) := by show _ = _; rw [HE2.out, h1, h2, h3, h5]; rfl
  clear HE2
  go_wp2_with fail
  have X3 : ∀ wx, Ext w2 wx → wx.cell? ⟨w.heap.size + 1, 3, none⟩ = some (.slice ab xs.length cb) := fun wx hC => ext_cell p3 lp hC
  have HN : Hid (∀ wx, Ext w2 wx → Calls Tryz.prog 59 #[.slice ab xs.length cb] wx fun e w'' => ∃ u, e = .returned u ∧ Ext w2 w'' ∧ Grows wx w'' ∧ isBody (nrm xs) u w'') := fun wx hC =>
    rel_call hC (normalB_any _ xs wx (HY2.out.below hC) HX4.out)
  have HQ : Hid (∀ wx u, Ext w2 wx → BodyAt wx u (nrm xs) → Calls Tryz.prog 148 #[.slice ab xs.length cb, u] wx fun e w'' => ∃ u, e = .returned u ∧ Ext w2 w'' ∧ Grows wx w'' ∧ isB (decide (xs = nrm xs)) u w'') := fun wx u hC hu =>
    rel_call hC ((eqLits_any xs (nrm xs) _ u wx (HY2.out.below hC) hu).mono fun e w'' ⟨he, hb⟩ => ⟨_, he, rfl, hb⟩)
  have HD : Hid (∀ q : Bool, decide (xs = nrm xs) = q → E = if q = false then 8 else if posI (hasName nm) b.rules < (i : Int) then 5 else 0) := fun q hq => by rw [HE3.out, hq]
  clear HE3
  generalize hq : decide (xs = nrm xs) = q at *
  have HDq := hidIt (HD.out q rfl)
  clear HD hq
  haveI : Nonempty (In (Ext w2)) := Ext.nonempty w2
  refine wp_region_rel (Ext w2) Grows (relTab [(40, isBody (nrm xs)), (41, isB q)]) (by kernel_rfl) (by kernel_rfl) (by kernel_rfl) (stable_cons (isBody_up _) (stable_cons (isB_up _) (stable_nil _))) (Ext.start w2) ?_
  repeat (
    refine' walkR_plain (by kernel_rfl) rfl rfl (fun wx hC hL => ?_) ?_
    rotate_left
    · (have hlw := Nat.lt_of_lt_of_le lp (Below.size hC)
       simp only [X3 wx hC, hlw, go_sem]; first | done | (go_simp; exact ⟨rfl, rfl⟩))
    simp only [Act.put, List.setIfInBounds_toArray, List.set_cons_zero, List.set_cons_succ])
  refine walkR_rel (by kernel_rfl) rfl rfl (of_decide_eq_true (by kernel_rfl)) (fun wx hC hL => ?_) (fun v hv => ?_)
  · go_simp
    exact HN.out wx hC
  obtain ⟨_, _, -⟩ := hv
  simp only [Act.put, List.setIfInBounds_toArray, List.set_cons_zero, List.set_cons_succ]
  refine walkR_rel (by kernel_rfl) rfl rfl (of_decide_eq_true (by kernel_rfl)) (fun wx hC hL => ?_) (fun v hv => ?_)
  · have hbv : BodyAt wx v (nrm xs) := hL.get 40 (by simp [more]) (by kernel_rfl) rfl rfl
    go_simp
    exact HQ.out wx v hC hbv
  obtain ⟨_, _, rfl⟩ := hv
  simp only [Act.put, List.setIfInBounds_toArray, List.set_cons_zero, List.set_cons_succ]
  repeat (
    refine' walkR_plain (by kernel_rfl) rfl rfl (fun wx hC hL => ?_) ?_
    rotate_left
    · (have hlw := Nat.lt_of_lt_of_le lp (Below.size hC)
       simp only [X3 wx hC, hlw, go_sem]; first | done | (go_simp; exact ⟨rfl, rfl⟩))
    simp only [Act.put, List.setIfInBounds_toArray, List.set_cons_zero, List.set_cons_succ])
  refine fun w3 hC3 _ => ?_
  have HB3 := hidIt (HB2.out.trans (Below.mono hC3 HB2.out.size))
  have HV3 := hidIt (HV2.out.below hC3)
  have HK3 := hidIt (blk_kept2 HK2.out hC3)
  have HP3 := hidIt (blk_kept2 HP2.out hC3)
  clear hC3 X3 HN HQ HB2 HV2 HY2 HK2 HP2 p0 p1 p2 p3 p4 p5 k0 k1 k2 lp lk
  obtain ⟨p0, p1, p2, p3, p4, p5⟩ := bcell6 HP3.out
  obtain ⟨k0, k1, k2⟩ := bcell3 HK3.out
  have lp := lt_of_block HP3.out
  have lk := lt_of_block HK3.out
  cases q
  · go_wp2_with fail
    go_ret
    exact ⟨ret_int (by rw [HDq.out]; rfl), HB3.out⟩
  have HF : Hid (E = if posI (hasName nm) b.rules < (i : Int) then 5 else 0) := by show _ = _; rw [HDq.out]; rfl
  clear HDq
  go_wp2_with fail
  refine (bfind_any b _ nm _ HV3.out).mono ?_
  rintro e w4 ⟨rfl, hb4⟩
  have HB4 := hidIt (HB3.out.trans (hb4.mono HB3.out.size))
  clear hb4 p0 p1 p2 p3 p4 p5 k0 k1 k2 lp lk HV3 HK3 HP3
  generalize posI (hasName nm) b.rules = z at *
  by_cases hz : z < (i : Int)
  · have hF : E = 5 := by rw [HF.out, if_pos hz]
    clear HF
    go_wp2_with fail
    go_ret
    exact ⟨ret_int hF.symm, HB4.out⟩
  · have hF : E = 0 := by rw [HF.out, if_neg hz]
    clear HF
    go_wp2_with fail
    go_ret
    exact ⟨ret_int hF.symm, HB4.out⟩

end Go.Proofs.YtfcoplplkbeljaaGreatDoor

namespace Go.Proofs.YtfcoplplkbeljaaGreatDoor
set_option linter.unusedVariables false
set_option linter.unusedSimpArgs false
open Go Go.RowKit

/-- The first error of k, or 0. -/
def errUp (f : Nat → Int) : Nat → Int
  | 0 => 0
  | k + 1 => if errUp f k = 0 then f k else errUp f k
theorem errUp_stop {f : Nat → Int} {k : Nat} (h0 : errUp f k = 0) (hf : f k ≠ 0) : ∀ n, k < n → errUp f n = f k
  | 0, h => absurd h (by omega)
  | n + 1, h => by
    by_cases e : k = n
    · subst e
      rw [errUp, if_pos h0]
    · have := errUp_stop h0 hf n (by omega)
      rw [errUp, this, if_neg hf]
theorem errUp_next {f : Nat → Int} {k : Nat} (h0 : errUp f k = 0) (hf : f k = 0) : errUp f (k + 1) = 0 := by rw [errUp, if_pos h0, hf]

def premF (b : Bs) (i : Nat) : Int := if h : i < b.prems.length then premE b b.prems[i] i else 0
def ruleF (b : Bs) (i : Nat) : Int := if h : i < b.rules.length then ruleE b b.rules[i] i else 0
def promF (b : Bs) (i : Nat) : Int := if h : i < b.proms.length then promE b b.proms[i] else 0
/-- The error of a rule base. -/
def baseE (b : Bs) : Int :=
  if 16 < b.prems.length ∨ 24 < b.rules.length ∨ 8 < b.proms.length then 2
  else if errUp (premF b) b.prems.length ≠ 0 then errUp (premF b) b.prems.length
  else if errUp (ruleF b) b.rules.length ≠ 0 then errUp (ruleF b) b.rules.length
  else errUp (promF b) b.proms.length

set_option maxHeartbeats 2000000 in
theorem bvalidate_any (b : Bs) (hb : BsOk b) (v : Value) (w : World) (hv : BaseAt w v b) :
    Calls Tryz.prog 54 #[v] w fun e w' => e = .returned (.int .i64 (baseE b)) ∧ Below w.heap.size w w' := by
  have HVW := hidIt hv
  obtain ⟨a1, a2, a3, c1, c2, c3, rfl, m1, n1, m2, n2, m3, n3, -, -, hq⟩ := hv.form
  have hl1 : b.prems.length ≤ 9223372036854775807 := by unfold maxLen at n1; omega
  have hl2 : b.rules.length ≤ 9223372036854775807 := by unfold maxLen at n2; omega
  have hl3 : b.proms.length ≤ 9223372036854775807 := by unfold maxLen at n3; omega
  have hgr := bgrow w (.cells #[.slice a1 b.prems.length c1, .slice a2 b.rules.length c2, .slice a3 b.proms.length c3] 32)
  have HB0 := hidIt hgr
  have HV0 := hidIt (HVW.out.below hgr)
  have HQ0 := hidIt (hq.below hgr)
  have HK0 := hidIt (heap_alloc_new w (.cells #[.slice a1 b.prems.length c1, .slice a2 b.rules.length c2, .slice a3 b.proms.length c3] 32))
  have HE : Hid (baseE b = if 16 < b.prems.length ∨ 24 < b.rules.length ∨ 8 < b.proms.length then 2
    else if errUp (premF b) b.prems.length ≠ 0 then errUp (premF b) b.prems.length
    else if errUp (ruleF b) b.rules.length ≠ 0 then errUp (ruleF b) b.rules.length
    else errUp (promF b) b.proms.length) := by show _ = _; rfl
  generalize baseE b = E at *
  clear hv hgr HVW m1 m2 m3 n1 n2 hq
  by_cases hbig : 16 < b.prems.length ∨ 24 < b.rules.length ∨ 8 < b.proms.length
  case pos =>
    have HE2 : Hid (E = 2) := by show _ = _; rw [HE.out, if_pos hbig]
    clear HE
    by_cases h1 : 16 < b.prems.length
    · have h1I : (16 : Int) < (b.prems.length : Int) := by omega
      clear hbig h1
      go_enter Tryz.func54, Tryz.ntmps54
      go_wp2_with fail
      go_ret
      exact ⟨ret_int HE2.out.symm, HB0.out⟩
    by_cases h2 : 24 < b.rules.length
    · have h1I : ¬ (16 : Int) < (b.prems.length : Int) := by omega
      have h2I : (24 : Int) < (b.rules.length : Int) := by omega
      clear hbig h1 h2
      go_enter Tryz.func54, Tryz.ntmps54
      go_wp2_with fail
      go_ret
      exact ⟨ret_int HE2.out.symm, HB0.out⟩
    · have h1I : ¬ (16 : Int) < (b.prems.length : Int) := by omega
      have h2I : ¬ (24 : Int) < (b.rules.length : Int) := by omega
      have h3I : (8 : Int) < (b.proms.length : Int) := by omega
      clear hbig h1 h2
      go_enter Tryz.func54, Tryz.ntmps54
      go_wp2_with fail
      go_ret
      exact ⟨ret_int HE2.out.symm, HB0.out⟩
  case neg =>
  have h1I : ¬ (16 : Int) < (b.prems.length : Int) := by omega
  have h2I : ¬ (24 : Int) < (b.rules.length : Int) := by omega
  have h3I : ¬ (8 : Int) < (b.proms.length : Int) := by omega
  have HE2 : Hid (E = if errUp (premF b) b.prems.length ≠ 0 then errUp (premF b) b.prems.length
    else if errUp (ruleF b) b.rules.length ≠ 0 then errUp (ruleF b) b.rules.length
    else errUp (promF b) b.proms.length) := by show _ = _; rw [HE.out, if_neg hbig]
  clear HE hbig
  have HEa : Hid (∀ k, k < b.prems.length → errUp (premF b) k = 0 → premF b k ≠ 0 → E = premF b k) := fun k hk h0 hf => by
    have := errUp_stop h0 hf _ hk
    rw [HE2.out, if_pos (by rw [this]; exact hf), this]
  have HEb : Hid (errUp (premF b) b.prems.length = 0 → ∀ k, k < b.rules.length → errUp (ruleF b) k = 0 → ruleF b k ≠ 0 → E = ruleF b k) := fun hz k hk h0 hf => by
    have := errUp_stop h0 hf _ hk
    rw [HE2.out, if_neg (fun h => h hz), if_pos (by rw [this]; exact hf), this]
  have HEc : Hid (errUp (premF b) b.prems.length = 0 → errUp (ruleF b) b.rules.length = 0 → E = errUp (promF b) b.proms.length) := fun hz hy => by
    rw [HE2.out, if_neg (fun h => h hz), if_neg (fun h => h hy)]
  clear HE2
  have HP1 : Hid (∀ k (hk : k < b.prems.length), premF b k = premE b b.prems[k] k) := fun k hk => dif_pos hk
  have HP2 : Hid (∀ k (hk : k < b.rules.length), ruleF b k = ruleE b b.rules[k] k) := fun k hk => dif_pos hk
  have HP3 : Hid (∀ k (hk : k < b.proms.length), promF b k = promE b b.proms[k]) := fun k hk => dif_pos hk
  generalize premF b = f1 at *
  generalize ruleF b = f2 at *
  generalize promF b = f3 at *
  go_enter Tryz.func54, Tryz.ntmps54
  go_wp2_with fail
  generalize (w.alloc (.cells #[.slice a1 b.prems.length c1, .slice a2 b.rules.length c2, .slice a3 b.proms.length c3] 32)) = w0 at *
  go_loopw [3, 4, 29] (fun _ _ i wr => ∃ k : Nat, k ≤ b.prems.length ∧ i = .int .i64 k ∧ Hid (Below w0.heap.size w0 wr) ∧ Hid (errUp f1 k = 0)) (fun _ _ i _ => b.prems.length - (intOf i).toNat)
  case atStart => exact ⟨0, Nat.zero_le _, rfl, Below.refl _ _, rfl⟩
  case round =>
    obtain ⟨k, hk, rfl, HBr, HF⟩ := hrel
    have HKr := hidIt (blk_kept2 HK0.out HBr.out)
    obtain ⟨k0, k1, k2⟩ := bcell3 HKr.out
    have lk := lt_of_block HKr.out
    by_cases hlt : k < b.prems.length
    · have hkr := hlt
      have hltI : (k : Int) < (b.prems.length : Int) := by omega
      have hk0 : (0 : Int) ≤ (k : Int) := by omega
      go_wp2_with fail
      refine (valPrem_any b hb _ k hkr wr (HV0.out.below HBr.out)).mono ?_
      rintro e w1 ⟨rfl, hb1⟩
      rw [← HP1.out k hkr]
      have HB1 := hidIt (HBr.out.trans (Below.mono hb1 HBr.out.size))
      have HBW := hidIt (HB0.out.trans (Below.mono HB1.out HB0.out.size))
      clear hb1 k0 k1 k2 lk HKr
      by_cases hz : f1 k = 0
      · rw [hz]
        go_wp2_with fail
        go_roundw
        case rel => exact ⟨k + 1, by omega, by go_num, HB1, errUp_next HF.out hz⟩
        case measure => simp [intOf]; omega
      · have hzb : (f1 k == 0) = false := beq_eq_false_iff_ne.2 hz
        have HEE := hidIt (HEa.out k hkr HF.out hz)
        go_wp2_with fail
        go_ret
        exact ⟨ret_int HEE.out.symm, HBW.out⟩
    · obtain rfl : k = b.prems.length := by omega
      have HEb2 := hidIt (HEb.out HF.out)
      have HEc2 := hidIt (HEc.out HF.out)
      have HB2 := hidIt (HB0.out.trans (Below.mono HBr.out HB0.out.size))
      have HV2 := hidIt (HV0.out.below HBr.out)
      have HQ2 := hidIt (HQ0.out.below HBr.out)
      clear HEa HEb HEc HB0 HV0 HQ0 HK0 HF HBr
      go_wp2_with fail
      clear k0 k1 k2 lk
      generalize hwA : wr = wA at *
      clear hwA
      go_loopw [5, 6, 42] (fun _ _ i ws => ∃ k : Nat, k ≤ b.rules.length ∧ i = .int .i64 k ∧ Hid (Below wA.heap.size wA ws) ∧ Hid (errUp f2 k = 0)) (fun _ _ i _ => b.rules.length - (intOf i).toNat)
      case atStart => exact ⟨0, Nat.zero_le _, rfl, Below.refl _ _, rfl⟩
      case round =>
        obtain ⟨k, hk, rfl, HBs, HF⟩ := hrel
        have HKs := hidIt (blk_kept2 HKr.out HBs.out)
        obtain ⟨k0, k1, k2⟩ := bcell3 HKs.out
        have lk := lt_of_block HKs.out
        by_cases hlt : k < b.rules.length
        · have hkr := hlt
          have hltI : (k : Int) < (b.rules.length : Int) := by omega
          have hk0 : (0 : Int) ≤ (k : Int) := by omega
          go_wp2_with fail
          refine (valRule_any b hb _ k hkr wr (HV2.out.below HBs.out)).mono ?_
          rintro e w1 ⟨rfl, hb1⟩
          rw [← HP2.out k hkr]
          have HB1 := hidIt (HBs.out.trans (Below.mono hb1 HBs.out.size))
          have HBW := hidIt (HB2.out.trans (Below.mono HB1.out HB2.out.size))
          clear hb1 k0 k1 k2 lk HKs
          by_cases hz : f2 k = 0
          · rw [hz]
            go_wp2_with fail
            go_roundw
            case rel => exact ⟨k + 1, by omega, by go_num, HB1, errUp_next HF.out hz⟩
            case measure => simp [intOf]; omega
          · have hzb : (f2 k == 0) = false := beq_eq_false_iff_ne.2 hz
            have HEE := hidIt (HEb2.out k hkr HF.out hz)
            go_wp2_with fail
            go_ret
            exact ⟨ret_int HEE.out.symm, HBW.out⟩
        · obtain rfl : k = b.rules.length := by omega
          have HEc3 := hidIt (HEc2.out HF.out)
          have HB3 := hidIt (HB2.out.trans (Below.mono HBs.out HB2.out.size))
          have HV3 := hidIt (HV2.out.below HBs.out)
          have HQ3 := hidIt (HQ2.out.below HBs.out)
          clear HEb2 HEc2 HB2 HV2 HQ2 HKr HF HBs
          go_wp2_with fail
          clear k0 k1 k2 lk
          generalize hwB : wr = wB at *
          clear hwB
          have HROW := hidIt (RowIn.form HQ3.out)
          go_loopw [8, 9, 55] (fun _ _ i ws => ∃ k : Nat, k ≤ b.proms.length ∧ i = .int .i64 k ∧ Hid (Below wB.heap.size wB ws) ∧ Hid (errUp f3 k = 0)) (fun _ _ i _ => b.proms.length - (intOf i).toNat)
          case atStart => exact ⟨0, Nat.zero_le _, rfl, Below.refl _ _, rfl⟩
          case round =>
            obtain ⟨k, hk, rfl, HBt, HF⟩ := hrel
            by_cases hlt : k < b.proms.length
            · have hkr := hlt
              have hltI : (k : Int) < (b.proms.length : Int) := by omega
              have hk0 : (0 : Int) ≤ (k : Int) := by omega
              obtain ⟨a3', c3', e2, -, -, hrow⟩ := HROW.out
              injection e2 with e2 e3 e4
              subst e2 e4
              obtain ⟨bb, off, rfl, hbl, d0', d1', d2', d3'⟩ := hrow k hkr
              have hgr := bgrow wr (.cells #[.string b.proms[k].rule, .int .i64 b.proms[k].rank, .bool b.proms[k].lit.neg, .string b.proms[k].lit.name] 78)
              have d0 := (HBt.out.cell (p := ⟨bb, off + k * 4, none⟩) hbl).trans d0'
              have d1 := (HBt.out.cell (p := ⟨bb, off + k * 4 + 1, none⟩) hbl).trans d1'
              have d2 := (HBt.out.cell (p := ⟨bb, off + k * 4 + 2, none⟩) hbl).trans d2'
              have d3 := (HBt.out.cell (p := ⟨bb, off + k * 4 + 3, none⟩) hbl).trans d3'
              have hbl2 := Nat.lt_of_lt_of_le hbl HBt.out.size
              have HBu := hidIt (HBt.out.trans (Below.mono hgr HBt.out.size))
              have HKt := hidIt (blk_kept2 HKs.out HBu.out)
              obtain ⟨k0, k1, k2⟩ := bcell3 HKt.out
              have lk := lt_of_block HKt.out
              clear hrow d0' d1' d2' d3' hgr hbl
              have hpo := hb.2.2 _ (List.getElem_mem hkr)
              go_wp2_with fail
              refine (valProm_any b _ b.proms[k] hpo _ (HV3.out.below HBu.out)).mono ?_
              rintro e w1 ⟨rfl, hb1⟩
              rw [← HP3.out k hkr]
              have HB1 := hidIt (HBu.out.trans (Below.mono hb1 HBu.out.size))
              have HBW := hidIt (HB3.out.trans (Below.mono HB1.out HB3.out.size))
              clear hb1 k0 k1 k2 lk HKt d0 d1 d2 d3 hbl2
              by_cases hz : f3 k = 0
              · rw [hz]
                go_wp2_with fail
                go_roundw
                case rel => exact ⟨k + 1, by omega, by go_num, HB1, errUp_next HF.out hz⟩
                case measure => simp [intOf]; omega
              · have hzb : (f3 k == 0) = false := beq_eq_false_iff_ne.2 hz
                have HEE : Hid (E = f3 k) := by show _ = _; rw [HEc3.out, errUp_stop HF.out hz _ hkr]
                go_wp2_with fail
                go_ret
                exact ⟨ret_int HEE.out.symm, HBW.out⟩
            · obtain rfl : k = b.proms.length := by omega
              have HEE : Hid (E = 0) := by show _ = _; rw [HEc3.out, HF.out]
              have HBW := hidIt (HB3.out.trans (Below.mono HBt.out HB3.out.size))
              go_wp2_with fail
              go_ret
              exact ⟨ret_int HEE.out.symm, HBW.out⟩

end Go.Proofs.YtfcoplplkbeljaaGreatDoor

namespace Go.Proofs.YtfcoplplkbeljaaGreatDoor
set_option linter.unusedVariables false
set_option linter.unusedSimpArgs false
open Go Go.RowKit Go.Sort

section
variable {α : Type} [DecidableEq α]
theorem compactUpTo_facts5 [Inhabited α] (R : α → α → Prop) (hR : ∀ a b, R a b → R b a → a = b) (d : Array α) (hp : ∀ i j, i < j → j < d.size → R d[i]! d[j]!) :
    ∀ m, m ≤ d.size → (Lib.compactUpTo d m).Nodup ∧ ∀ x, x ∈ Lib.compactUpTo d m ↔ ∃ j, j < m ∧ d[j]! = x := by
  intro m
  induction m with
  | zero => intro _; exact ⟨by simp [Lib.compactUpTo], fun x => by simp [Lib.compactUpTo]⟩
  | succ m ih =>
    intro hm
    obtain ⟨h1, h2⟩ := ih (by omega)
    rw [Lib.compactUpTo_succ]
    cases hk : Lib.keeps d m
    · have hneg : ¬ (m = 0 ∨ d[m]! ≠ d[m - 1]!) := by simpa [Lib.keeps] using hk
      have hm0 : 0 < m := by omega
      have he : d[m]! = d[m - 1]! := Classical.byContradiction fun e => hneg (.inr e)
      simp only [Bool.false_eq_true, if_false, List.append_nil]
      refine ⟨h1, fun x => (h2 x).trans ⟨fun ⟨j, hj, e⟩ => ⟨j, by omega, e⟩, fun ⟨j, hj, e⟩ => ?_⟩⟩
      by_cases hjm : j = m
      · subst hjm
        exact ⟨j - 1, by omega, by rw [← he]; exact e⟩
      · exact ⟨j, by omega, e⟩
    · have hpos : m = 0 ∨ d[m]! ≠ d[m - 1]! := by simpa [Lib.keeps] using hk
      simp only [if_true]
      have hnot : d[m]! ∉ Lib.compactUpTo d m := fun hmem => by
        obtain ⟨j, hj, e⟩ := (h2 _).1 hmem
        rcases hpos with h0 | hne
        · omega
        · by_cases hjm : j = m - 1
          · subst hjm; exact hne e.symm
          · have r1 := hp j (m - 1) (by omega) (by omega)
            have r2 := hp (m - 1) m (by omega) (by omega)
            rw [← e] at r2
            have := hR _ _ r1 r2
            exact hne (by rw [← e, this])
      refine ⟨?_, fun x => ?_⟩
      · rw [List.nodup_append]
        refine ⟨h1, by simp, fun a ha b hb => ?_⟩
        rw [List.mem_singleton] at hb
        subst hb
        exact fun e => hnot (e ▸ ha)
      · rw [List.mem_append, List.mem_singleton, h2 x]
        constructor
        · rintro (⟨j, hj, e⟩ | e)
          · exact ⟨j, by omega, e⟩
          · exact ⟨m, by omega, e.symm⟩
        · rintro ⟨j, hj, e⟩
          by_cases hjm : j = m
          · subst hjm; exact .inr e.symm
          · exact .inl ⟨j, by omega, e⟩

theorem compact_facts5 [Inhabited α] (R : α → α → Prop) (hR : ∀ a b, R a b → R b a → a = b) (l : List α) (hp : l.Pairwise R) :
    (Lib.compactUpTo l.toArray l.toArray.size).Nodup ∧ ∀ x, x ∈ Lib.compactUpTo l.toArray l.toArray.size ↔ x ∈ l := by
  have h := compactUpTo_facts5 R hR l.toArray (fun i j hij hj => by
    have hj' : j < l.length := by simpa using hj
    rw [List.getElem!_toArray, List.getElem!_toArray, getElem!_pos l i (by omega), getElem!_pos l j hj']
    exact List.pairwise_iff_getElem.1 hp i j (by omega) hj' hij) l.toArray.size (Nat.le_refl _)
  refine ⟨h.1, fun x => (h.2 x).trans ⟨fun ⟨j, hj, e⟩ => ?_, fun hx => ?_⟩⟩
  · have hj' : j < l.length := by simpa using hj
    rw [List.getElem!_toArray, getElem!_pos l j hj'] at e
    rw [← e]; exact List.getElem_mem hj'
  · obtain ⟨j, hj, e⟩ := List.getElem_of_mem hx
    exact ⟨j, by simpa using hj, by rw [List.getElem!_toArray, getElem!_pos l j hj]; exact e⟩
end

theorem nrm_facts5 (xs : List Lt) : (nrm xs).Nodup ∧ ∀ x, x ∈ nrm xs ↔ x ∈ xs := by
  have h := compact_facts5 (fun a b : Lt => (!ltOf cmpI b a) = true) (fun a b h1 h2 => by
    simp only [Bool.not_eq_true'] at h1 h2
    exact lt_total a b h2 h1) (srt xs) (srt_pair xs)
  exact ⟨h.1, fun x => (h.2 x).trans (List.mergeSort_perm xs _).mem_iff⟩

theorem compactUpTo_sub5 (d : Array Lt) (m : Nat) (hm : m ≤ d.size) : (Lib.compactUpTo d m).Sublist (d.toList.take m) := by
  unfold Lib.compactUpTo
  have e : d.toList.take m = (List.range m).map (d[·]!) := by
    apply List.ext_getElem
    · simp; omega
    · intro i h1 h2
      have hi : i < m := by simpa using h2
      simp only [List.getElem_take, List.getElem_map, List.getElem_range, Array.getElem_toList]
      rw [getElem!_pos d i (by omega)]
  rw [e]
  exact List.filter_sublist.map _

theorem nrm_pair5 (zs : List Lt) : (nrm zs).Pairwise fun a b => (!ltOf cmpI b a) = true := by
  have h := compactUpTo_sub5 (srt zs).toArray _ (Nat.le_refl _)
  have h2 : ((srt zs).toArray.toList.take (srt zs).toArray.size) = srt zs := by simp
  rw [h2] at h
  exact (srt_pair zs).sublist h

theorem nrm_self (xs : List Lt) : xs = nrm xs ↔ xs.Pairwise fun a b => ltOf cmpI a b = true := by
  obtain ⟨n1, m1⟩ := nrm_facts5 xs
  have hp := nrm_pair5 xs
  constructor
  · intro h
    rw [← h] at n1 hp
    have n2 : xs.Pairwise fun a b => a ≠ b := n1
    refine (hp.and n2).imp fun {a b} hh => ?_
    obtain ⟨hab, hne⟩ := hh
    cases hlt : ltOf cmpI a b
    · exact absurd (lt_total a b hlt (by simpa using hab)) hne
    · rfl
  · intro h
    have hle : xs.Pairwise fun a b => (!ltOf cmpI b a) = true := h.imp fun {a b} hab => by
      cases k : ltOf cmpI b a
      · rfl
      · have := swo.trans a b a hab k
        rw [swo.irrefl] at this
        cases this
    have hnd : xs.Nodup := h.imp fun {a b} hab e => by
      subst e
      rw [swo.irrefl] at hab
      cases hab
    exact List.Perm.eq_of_pairwise (le := fun a b => (!ltOf cmpI b a) = true) (fun a b _ _ h1 h2 => by
      simp only [Bool.not_eq_true'] at h1 h2
      exact lt_total a b h2 h1) hle hp ((List.perm_ext_iff_of_nodup hnd n1).2 (fun x => (m1 x).symm))

/-- The same error of a rule, and of a base, with the body's order asked for as it stands. -/
def ruleE5 (b : Bs) (r : Ru) (i : Nat) : Int := if 4 < r.body.length then 2 else if ruleB r = false then 1 else if decide (r.body.Pairwise fun a b => ltOf cmpI a b = true) = false then 8 else if posI (hasName r.name) b.rules < (i : Int) then 5 else 0
theorem ruleE5_eq (b : Bs) (r : Ru) (i : Nat) : ruleE b r i = ruleE5 b r i := by
  unfold ruleE ruleE5
  rw [decide_eq_decide.2 (nrm_self r.body)]
def ruleF5 (b : Bs) (i : Nat) : Int := if h : i < b.rules.length then ruleE5 b b.rules[i] i else 0
def baseE5 (b : Bs) : Int :=
  if 16 < b.prems.length ∨ 24 < b.rules.length ∨ 8 < b.proms.length then 2
  else if errUp (premF b) b.prems.length ≠ 0 then errUp (premF b) b.prems.length
  else if errUp (ruleF5 b) b.rules.length ≠ 0 then errUp (ruleF5 b) b.rules.length
  else errUp (promF b) b.proms.length
theorem baseE5_eq (b : Bs) : baseE b = baseE5 b := by
  have h : ruleF b = ruleF5 b := by
    funext i
    unfold ruleF ruleF5
    simp only [ruleE5_eq]
  unfold baseE baseE5
  rw [h]
end Go.Proofs.YtfcoplplkbeljaaGreatDoor
